import PyProof.Rows.All
import Wide.All
import OpenK.AllK
import Wide.FinOn
import Lean
import PyProof.EqAt
import PyProof.EqKinds
import PyProof.TupleCall
import PySem.Challenge.RW_holebook_k37_what_is_told_of_a_round
set_option linter.all false
set_option Elab.async false
set_option maxRecDepth 100000
set_option genSizeOf false
set_option genInjectivity false
set_option maxHeartbeats 0
set_option compiler.extract_closed false
noncomputable section
local macro_rules|`(tactic|omega)=>`(tactic|first|with_reducible(first|assumption|exact Nat.le_trans ‹_› (Nat.le_of_ble_eq_true rfl)|exact Nat.lt_of_lt_of_le ‹_› ‹_›|exact Nat.le_of_lt ‹_›|exact Nat.lt_of_lt_of_eq ‹_› ‹_›|exact Nat.lt_of_lt_of_eq ‹_› (Eq.symm ‹_›)|exact Nat.lt_of_le_of_lt ‹_› ‹_›|exact Nat.succ_le_of_lt ‹_›|exact Nat.le_of_not_lt ‹_›|exact Nat.sub_le _ _|exact Nat.le_of_succ_le ‹_›|exact Nat.lt_succ_of_lt ‹_›|exact Nat.le_add_right _ _)|lia)
local macro_rules|`(tactic|ac_rfl)=>`(tactic|first|exact .inl rfl|exact .inr rfl|assumption)
local macro_rules|`(command|mutual $cs* end)=>do
 unless cs[0]!.raw.isOfKind ``Lean.Parser.Command.check do Lean.Macro.throwUnsupported
 let some l:=cs[0]!.raw.find? (·.isOfKind `«term[_]»)|Lean.Macro.throwUnsupported
 let w:=Lean.Name.str `Lean.Parser.Term
 let t:=Lean.Name.str `Lean.Parser.Tactic
 let v:=Lean.Name.str `Lean.Parser.Command
 let k:=Lean.Syntax.node .none
 let b:=Lean.mkAtom
 let u(a:Array Lean.Syntax):=Lean.mkNullNode a
 let o:=Lean.mkNode ``Lean.Parser.Tactic.rcasesPat.one
 let rec p:Nat->Lean.Syntax->Lean.Syntax
  | 0,x=>x
  | n+1,x=>if x.isOfKind (w "paren") then p n x[1] else if x.isOfKind (w "anonymousCtor") then k ``Lean.Parser.Tactic.rcasesPat.tuple #[x[0],u (x[1].getArgs.map fun y=>if y.isAtom then y else k (t "rcasesPatLo") #[k (t "rcasesPatMed") #[u #[p n y]],u #[]]),x[2]] else o #[if x.isIdent then x else Lean.mkIdent `_y9]
 let d:Char->Nat:=fun c=>if c.isDigit then c.toNat-48 else c.toNat-55
 let a:Char->Nat:=fun c=>if c.isLower then c.toNat-97 else c.toNat-39
 let e:Lean.Syntax->Nat:=fun s=>match s.getId.toString.toList with
  | [x]=>a x
  | [x,y]=>52+a x*36+d y
  | [x,y,z]=>1924+(a x*36+d y)*36+d z
  | _=>1000000
 let f:Array Lean.Syntax->Lean.Syntax->Lean.Syntax:=fun m s=>s.rewriteBottomUp fun x=>
  if x.isOfKind (w "syntheticHole") then m.getD (e x[1]) x
  else if x.isOfKind (w "app")&&x[0].isOfKind (w "explicit")&&x[0][1].isOfKind (w "paren") then
   x[0][1][1].rewriteBottomUp fun y=>if y.isOfKind (w "syntheticHole")&&e y[1]<2 then x[1][e y[1]] else y
  else if x.isOfKind Lean.nullKind&&x.getArgs.any (fun y=>y.isOfKind (w "instBinder")&&y[2].isOfKind (w "forall")) then
   x.setArgs (x.getArgs.flatMap fun y=>if y.isOfKind (w "instBinder")&&y[2].isOfKind (w "forall") then y[2][1].getArgs else #[y])
  else if x.isOfKind ``Lean.Elab.Tactic.Ext.ext then
   match x.find? (·.isIdent) with
   | some i=>match m[e i]? with
    | some t=>Lean.mkNode ``Lean.Parser.Tactic.paren #[b "(",t[1],b ")"]
    | none=>x
   | none=>x
  else x
 let mut m:=l[1].getSepArgs.map fun x=>if x.isOfKind (w "inaccessible") then x[1] else x
 for _ in [0:((cs[0]!.raw.find? (·.isOfKind `num)).get!.isNatLit?).get!] do m:=m.map (f m)
 return Lean.mkNullNode ((cs.extract 1 cs.size).map fun c=>
  if c.raw.isOfKind ``Lean.Parser.Command.universe then
   let i:=c.raw[1][0]
   Lean.mkNode ``Lean.Parser.Command.end #[b "end",Lean.mkNullNode (if i.getId==`e9 then #[] else #[i,Lean.mkNullNode])]
  else
   let c:=(f m c.raw).rewriteBottomUp fun x=>(if x.isOfKind (w "basicFun") then x.setArg 0 (x[0].setArgs (x[0].getArgs.map fun y=>if y.isOfKind (w "hole") then Lean.mkIdent `_y9 else y))
    else if x.isOfKind ``Lean.Parser.Tactic.rcasesPat.ignore then o #[Lean.mkIdent `_y9]
    else if x.isOfKind (t "apply") then k (t "refine") #[b "refine",x[1]]
    else if x.isOfKind (t "refine") then k (t "apply") #[b "apply",x[1]]
    else if x.isIdent&&x.getId.toString.startsWith "t_" then Lean.mkIdent (.mkSimple s!"tw{(x.getId.toString.drop 2).foldl (fun n c=>n*62+(if c.isDigit then c.toNat-48 else if c.isLower then c.toNat-87 else c.toNat-29)) 0}")
    else if x.isOfKind `«term#[_,]» then k (w "anonymousCtor") #[b "⟨",x[1],b "⟩"]
    else if x.isOfKind `Vector.«term#v[_,]» then k `«term#[_,]» #[b "#[",x[1],b "]"]
    else if x.isOfKind (v "declaration") then
     let d:=x[1]
     if d.isOfKind (v "definition") then x.setArg 1 (k (v "theorem") #[b "theorem",d[1],k (v "declSig") #[d[2][0],d[2][1][0]],d[3]])
     else if d.isOfKind (v "abbrev")&&x[0][4].getNumArgs==0 then
      (if d[3][1].isOfKind (w "explicit") then x else x.setArg 0 (x[0].setArg 4 (u #[Lean.mkNode (v "noncomputable") #[b "noncomputable"]]))).setArg 1 (k (v "definition") #[b "def",d[1],d[2],d[3],u #[]])
     else x
    else match if x.isOfKind (t "tacticLet__") then x.find? (·.isOfKind (w "letPatDecl")) else none with
    | some d=>k (t "obtain") #[b "obtain",u #[k (t "rcasesPatMed") #[u #[p 9 d[0]]]],u #[],u #[d[3],u #[d[4]]]]
    | none=>x).setInfo .none
   c)
mutual
#check(4,[?a,?b,some,∀(K:W.Frag),a,wpAny,∀(I:?C),a,.int,X.env,.inr,.inl,(?sQ ?aN X.w),.ref,X.xe,?c o,?r V,.(by let ?vG:=ry),decide,List,s.heap.objs.size,s.heap,.non,if_neg,absurd,.lst,?r ?aE,?r Int,.nil,∀{Ae:Bm}{σ:St}{H:Hp}{s:Shared},a,?ZR H s,if_pos,∀{A:Around},a,St->?aB,(?a0),.cons,?g i,?r Str,(Cr I q ?G),?c v,its.toArray,.tup,∀(Ae:Bm) (s:Shared) (σ:St) (H:Hp),a,Vals,.(by obtain rfl:=qa8 hf;obtain rfl:=qa8 hg),∀{us:?y},a,Reps,pure,?c u,.(by intro Ae s σ H Q I h),∀(hK:X.K=K:=by rfl),a,(by omega),.seq,?a2O b,.(by simp),p.isList,name,∀{E:?h2},a,∀{pos:Pos},a,none,outer,.builtin,(?dS),∀(xs:?o),a,F5 fam w,Hp->Prop,∀{es:?gZ},a,?l a,Value,.type,?r D,∀{K:W.Frag},a,∀{u:Value},a,∀{a:Addr},a,.none,xs[i]?=?cX,compareOp,X.prog,(i+1),.(by decide +kernel),∀{h:Heap},a,(n:Int),H p=none,eval,s.heap.get?,?r ?g7,(?dO),base,qual,?c ?p9,.(by simp<;>omega),∀{s:Shared},a,I.list,(EP X Ae σ Q),?aF ?dQ,[a,b],?P xs us,I.kIn,I.hok,∀(H:Hp)(Q:VK),a,∀{xs:?o},a,.(by exact qc3 e),bootBuiltins,Option,V.int,(?aD),(?fF),.Call,(?sQ prog w),.bl b,.(by ext b0),(?t1),?c c,(?o7),?a3S w,.(by let ?j4:=_z),∀(x:V)(y:V)(H:Hp)(Q:VK),a,∀(a:Addr),a,?bD Int,?iU σ H,.bool,#[_,rfl],Pv i σ H,?d5 a,I.bare,.BoolOp,k _ _ ?dZ e,?cN _,List.replicate,RelV,xs.length,2 ^ 62,?e7 H H',?aF ?fE,ObjOk,I.tuple,(?l f),?c3 x u,?jH ?aE,.(by ext aP),∀{P:Program}{w:World}{K:W.Frag},a,∀(hc:?rC),a,∀(X:Cx)(Ae:Bm),a,∀(w:?z),a,Pv i ys τ H,.Attribute,congrArg,args,kindOf,.str,?r Env,Bool,I.freeC,(?l it),sIx ?AJ 0 lo,false,?aU b=?n,#[t,rfl],true,?c x,"int",?c ?lV,?o->?tA,?c j,∀v,o.data≠?p9 v,(x=?aD),?c3 v u,h.get?,(e::es),S4.2,_::_,.(by intro X hP hw hK hc i Ae s σ H E I hf st hg;subst hP hw hK),.(by exact ?QO),∀(Pv:?U9)(h0:Pv 0 [] τ H),a,.(by intro Ae s σ H x y v u Q I rx ry h),∀{Q:?h2},a,∀(us:?y),a,∀{fp:?aV},a,∀(s':Shared),a,∀(s:Shared),a,∀(ws:LLInt),a,∀{ws:LLInt},a,∀(h:Heap),a,I.free,X.base,deps ds,?l p,(qc3 e),"list",?a1X a xs,qa2 _,?r (Str × V),?sU x=?bM,eV h0,?c .local,?pD=?n,?a33 a xs,(?hW),False.elim,?c3 x v,scope,[?aD],?b2 hq,?g _,IsPair,Same,(?IS),S H a xs,.(by let ?cV:=ry),∀(vs:?o),a,∀(xs:LLInt),a,∀(fam:Int),a,∀(u:Value),a,∀{H H':Hp},a,∀(C:Addr),a,∀{t':Nat},a,W.findIn,X.mg,#[h1,h2],(∀σ' H',?rM->∃m',m'<m/\W ?aO m' σ' H'),?cN x,qd9.mp,?a1Y v d,.bl _,its',i<=xs.length,List.range,.Name,starEach,?a13 xs.length,W i m σ H,Str->?mK,Pv ?aO,fam<0,?j z,Nat->?t5,(O9m),?l ?s,(?x ys),?i1 ?c4 0 lo,[z,TI,TO,i1,i2],I.cell,.(by simp at h),qa3.mp,?r Stmt,assign,(.ListComp elt [#[tg,iter,ifs,0]] sc pos),?a2V vs ds,"tuple",?a1J 1,(?f3),s'.heap,(?xY),g x σ H' λσ2 H2=>tb ?M1 σ2 H2,Shared->Prop,binaryOp,∀(x0:A0) (x1:A1) (x2:A2) (x3:A3) (x4:A4) (x5:A5) (x6:A6) (x7:A7),a,.(by cases ry;let ?VO:=?c9 q),.(by cases ry;let ?VO:=?b2 q),.(by cases (show V.ref a=_ from h')),.(by intro Ae s σ H xs us Q I r h),∀{K:W.Frag}{a:Addr}{xs:?o},a,∀(ha:?TL)(hb:?a1F b tb),a,.(by let ?A2:=he),.(by let ?A2:=hy),∀(P:Program)(w:World),a,∀{ws:LLInt}{fam:Int},a,.(by simpa using this),∀{i:Nat}{x:Str},a,.(by let ?cV:=r),∀(r:?d4),a,∀{vs:?o},a,(?sQ P w),(1:Int),i<=n,(g i j),(∃m,W 0 m σ H),Addr,λ_ _=>False,?P vs us,d::ds,(?x []),λb hb=>?_,λv s1 _z=>?_,t σ H Q,pl.isList,w::r,?N ds,X.stack,(vs++dvs),?c9 hq,"enumerate",sIx ?AJ ?AJ hi,backTo,h'.get?,h.IsListIter,codeAny,(n,k),(?ZT he h),Value.ref,qc4 _ rfl,(qo8 _),s.heap.push,"zip",I.tok _,?r Expr,λ_=>none,?r (Str × Addr),?aE->?fK,[a,b,c],?v hk,body,s1.heap.objs.size,∀(hf:?zN\/?a0B ?dW:=by ac_rfl),a,∀(x:p0) (x:p1) (x:p2) (x:p3) (x:p4) (x:p5) (x:p6),a,.(by let ?Q8:=hf it ?G),∀{te:TE}{D:Addr}{Q:?aB}{τ:St}{H:Hp},a,∀(hf:?vX),a,.(by intro Ae s σ H D I h),∀{vs:?o}{ds:?aG},a,.(by have e:¬?mX:=O9m),.(by let ?cV:=rx),∀(he:?x3),a,∀{xs ys:?o},a,.(by simpa using hb),∀(ns:?z),a,∀{ns:?z},a,.(by rw[qc5,←hl]),∀{w:?z},a,∀{fam:Int},a,∀{v:Value},a,∀{α:Type},a,qb3 ..,lv fam w,K.lookup,#[its,rv,p,hz],(λz=>?sR),?r α,?j rfl,0<fam,V->?aB,"bool",?eT x px,HT.sIx,(k:Int),?P xs its,.(by ext hI),(?l D),{ s with heap:=h' },?i x,{ s with toks:=?q3 },Kb xs lo hi,s₁,?H r t,I.pin,#[its,rv,p,_],(ys++[y]),f∈ws,I.base.free,0<=i,X.N[i]?=?cX,(?yE).any,(i:Int),Ite K a,?v ?X,(?GM),zJ K a b,2 ^ 63,#[t,e],xY lo n,I.os,.fields,D.nx,xs=[?dO],sc.names,(E4 ns),rv.get,H l=?v7,#[u,hu,ru],?D hk,(?pI es x1 tpos),qa7 _ e,#[x,H1,I1,r1,q1],items,r.get,?gO b,(?l x),vs.toArray,H' b,(?a1Y x d),λx H' y=>?_,I.hok.fresh,(?fL .Add),b≠X.env.locals,?r (Str × Value),Array,I.ok.kind,(?bO),?a4F e,I.laid,v=?aD,.function,(k+1),.(by cases (show y=?bJ from he);cases (show ?sZ from ry)),.(by cases (show y=?bJ from hy);cases (show v=?rB b from ry)),.(by cases (show y=?u from he);cases (show ?rX from ry)),.(by cases (show y=?u from hy);cases (show v=Value.none from ry)),∀(F:Bv ?aN X.w X.K ?eJ ?dM CX k f fd ps sp),a,∀(hd:?FP:=by decide),a,∀(hd:?a40 ?c4),a,.(by simp only[qd9,qj2,or_false]at hf),.(by cases (show ?oV from he)),.(by cases (show ?oV from hy)),.(by cases (show y=?cN z from he)),.(by cases (show y=?cN z from hy)),.(by by_cases hlt:?HA),.(by have e:?a3Z i:=O9m),∀{prog:Program}{w:World},a,∀(hu:X.A.units+n<cLine),a,∀(ha:?L2),a,∀(Q:?R4),a,∀(Q:VK)(x:V)(H1:Hp),a,∀(lo hi:?bS),a,∀{x1:Nat}{tpos:Pos},a,∀{b:Addr}{o:Obj},a,.(by simp only[eqD]),∀{g:TG}{tc:TT},a,∀{x:?z},a,∀(A:Around),a,s.toks,(?x xs),IsZip,(ps.zip us),X.base.get? b=?n,bindC,SameX,b ∉ ex,"range",{ s with heap:=h',toks:=t' },?x ds,?g (lo+i),?c ?a5,(?vN),Q ?aW H',?a4N b,?g b,[e,it],holding,Fu ws rows,?bD V,sp vs H Q E,TR h0,sc.names.lookup,?r Keyword,?gW ?xO,vs[i]?=?L,#[_,ho,rfl],x∈acc,?S X.K H vs ds,h _ ?G,?c y,?c w,qa9 _,(xs.length:Int),c.nocell,(?f9 hi).1,p'.isList,V->?tA,?a4N c,below,.(by simpa using hv),IsTup,IsEnum,its.toArray.size,?a2O ?s,(?ZT ha h),(?L),scope.names.lookup,?eJ x,#[_,e,rfl],(?dY),.free,?zY ?aY ?e2 ?s f cd,X.env.kindOf,I.kept,(?zR),call_meets,qa7 _ q,(zE X H d),eqDs a b,QG ?gI,(?bU ?cW),(by simp;omega),?c3 y u,#[#[old,h1],h2],(a:Addr),?a4F o,V1 H H',bindL,Hk k A,"str",?a3J us,(?a7 id),Di ws acc fs,wH.names.lookup,LT K H ?bF xs,?bD ?aE,?v ?G,(?a06 a o),ns.map,Nk X Ae H b,V->?d0,V->?bS->?bS->?tA,x::xs,Paired,ER ?sJ H,?i1 ?c4 ?c4 hi,λ_ _ q=>q,2 ^ 64,fam=0,K.In ?t,b ∉ ch,(by ext nJ),Ne.symm,Q v H',EO ws f,tQ h0,u=?gT a,Heap.SameBut,∀(he:?vQ:=by rfl),a,∀{g:TG}{tb:TS}{D:Ends}{σ:St}{H:Hp}(Pv:?t5)(h0:?NS),a,∀(s:Shared) (Q:?h2) (E:?h2),a,∀{X:Cx}{sc:Scope}{N':?J}{cap:?r (?bD Nat)},a,∀(hb:?JZ)(hd:?PG)(hx:?SE),a,∀(hdb:?FP:=by decide),a,.(by show ?UV;omega),∀(mg:?eX)(base:Heap),a,∀{mg:?eX}{base:Heap},a,∀{Ae:Bm}{s:Shared}{σ:St}{H:Hp},a,.(by rcases ?eN h with e | e),.(by let#[_,_,z,_]:=h';cases z),.(by simp only[qc5]<;>omega),∀(E:?h2),a,∀{Q:Unit->?fK},a,.(by have e':¬?eZ:=O9m),∀{m:?eX},a,∀(outer:?cO),a,∀{vs:?y},a,∀(fs acc:LLInt),a,∀(ha:PT X a tA),a,∀(x:?xR),a,∀(hr:Hk k X.A),a,∀(l acc:LLInt),a,∀{σ:St}{H:Hp},a,∀(p:?z),a,∀(ds:?aG),a,∀(hg:?q9),a,.Compare,callWith,.(by ext tZ),((?W5:Nat):Int),(start N vs),concat_meets,b ∉ X.fs,λb hb=>(?rJ).1,.(by decide),A.deeper,I.ok.above,?D hj,Ge X sc N' ?xU s H fp,Rc ds es hl,xs.length<=i,(x:V),λr s4 _z=>?_,Nat->?yH,(x=.bl c),a.length=b.length,k.toNat,?a2O l,(?oW),PySem.W.instObj,letOwnedTupleGo,pos.line,xs.getD,#[_,ho2,rfl],?l l,dep d,qC S NE a b,#[?eQ,_,p',_],y=?I,Itt K a,True.intro,.(nomatch h),?b2 q',?c (?zC),?j i,Itl K a,h2 f hf,getItem,.bl k,.bl ?cT,Yf X sc N' cap,value,.cell,fs.map,?jA=none,Obj.mapSeq,?d5 b,I.base.keep,?bX=?n,?vP K ?cA=true,vs=[],.Tuple,ys.length,{ cls:=?b4,data:=?Y ?j9 },?f7 x c e,(neC b o e hx),ds.any ?UH,w::vs,?D h,?H _ t,swapsWith,∀b xs,H b=?rP->?jA=?rP,#[z,its,n,r,e],ys[i]?=?lA,(Ar st),I.len,.(by simpa using h1),(by simpa using hu),behindInMarks op b=false,#[y,H2,I2,r2,q2],X.env.locals,λb ob q=>?m1,s.toks+1,?v hj,Vis ?vV x,((p,w)::?CU),ns.getD,sc.kind=?jN,Gl X x,?rG s'.gens,fs.lookup,Pv i zs τ H,?r (?OD),I.turned,?l b,IteG S a,.(by simpa using e),(?bO).map,?c (.own a),.(nomatch e),(?N [x,y]),W.fnOf x ?aY (Jx st) (Ht st) ?pV ?aK kV doc pm an Dr ct,I1.list,(x=?I),(JA vA),(?N xs),(?qF),I.loc,(?O3 pos (keywordEach [] ?h)),cells.lookup,(tOp r ta tb),I.list_inj,?x _,#[H1,I1,q1],r.inj r',env.cells,λ_ _ _=>False,(x=?oR),s.heap.IsCell,(?l sl),(c.cells I.ok),h1.get?,S H b ys,?c (?x4),k b u q,(?EJ),Value.bool,?a4N X.calm,(?iV),(?p2),?hR=0,AllBare,(!eqD d e),I.ok.bs b o e,hf b hb,X.outer,s.heap.update,N σ' H',?g n,Sum.inl,?c ?qQ,(?a0M x ?d6),[b,c],#[xs,q,?dS],(y xs q),"isinstance",λb o e n hb hx=>?_,hf b hb',u=Value.none,b≠e,bs[i]?,"dict",?c9 q',(?g i t),(b,o),?a1X a ?lZ,IntsAre vs ns,(qh0 _ _),H a=?n,Hp->?ZX ?g7 ?o,s.heap.FunFrames,qp6 _,?T ?cT,?j7=?n,(k,x)::r,.(by simpa using hx),I.step,λb o e=>?j3,λσ2 H2=>tb { D with nx:=?eY,ct:=?eY,bk:=D.nx } σ2 H2,assignEach,s₁.heap,.Subscript,.call,(?eT x pos),(hi-lo).toNat,.Assign,?r L2.D,model,.(nomatch z),(d:L2.D),Sum.inr,X.env.cells.lookup,IsPart,env.kindOf,(K6 h2),ForInStep.yield,u=?rB b,λu s1 _z=>?_,?l C,#[e,y],At t u D σ H,?bC x,Nat->?F,s2.heap,.Constant,qa8 h1,I7.unpinned,?ZX Hp VK,(?l t),ht.typeIs,λd h=>Sd h,#[?eQ,cB,p',_],It->?aB,?ZR H' s',.(by have l1:=r.length;have l2:=r'.length;have l3:=rv.length;have l4:=cB.length;have e1:its.toArray.size=ds.length:=?bK),.(by have e2:its'.toArray.size=es.length:=?bK),∀(hN:X.N.Nodup)(hi:?iI)(hx:?AE),a,∀(k:∀b u,?vW),a,.(by let#[o',e1]:=I.base.there b o e hx),.(by let ?M5:=he;cases ry),.(by let ?M5:=hy;cases ry),∀{kindOf:Str->?bD NameKind}{x:Str},a,∀(R:?tF)(vs:?o)(H1:Hp),a,.(by have e:b=it:=?i4),.(by let#[b,ws,z,q',r']:=h';cases z),∀(x0:A0) (x1:A1) (x2:A2) (x3:A3),a,∀(x8:A8) (x9:A9) (Sg:IU) (zW:uW),a,∀(hn:x≠"__name__":=by decide),a,.(by (ext nI)),∀(H':Hp) (i:?tG),a,∀(r:?mP),a,∀{f:?RV},a,.(by rw[Al (Aq q hn)];exact q),∀(sp:Sp)(dvs:?o)(E:XK),a,∀{kw:?jG},a,∀(cap:?r (?bD Nat)),a,∀(x:p0) (x:p1) (x:p2),a,∀{P:Program}{w:World},a,.(by let#[a,vs,e,q,r]:=h),∀(c:?p7),a,∀(R:?tF),a,∀(a:?SI),a,∀(its:?y),a,∀(g:Int->?y3),a,∀{e:Expr}{te:TE},a,∀(fp:?aV),a,∀(ha:?TL),a,∀(hl:?a1F l tl),a,∀(r:?g9),a,∀(h:?TM),a,∀(x:?c6),a,∀{X:Cx}{Ae:Bm},a,?v hz,N'.zip cap,.int_tuple c t p O9m,.FunctionDef,?e7 H H1,(hs.2 b (?a1V ?dP ?o9)).trans,?c (?x us),.(by simp[h]),.none_tuple p O9m,[a,b,c,d],#[_,e],#[i,hi],#[n,?a0,?lC,h0],λp hp=>?_,F5 fam v,#[cls,dd,data,sl],if c then A else B,if w∈ws then ws else ?wN,.str_int c t i t',∀b o u,H b=?vJ->?jA=?vJ,r.append,Data.fields _=Data.cell v,.list_tuple ?a1 p' O9m,PySem.W.plainGet,?c ?kG,xs.drop,tb σ H1 Q,?ZR H ?i6,#[od,J,hl],Dy K C f,.none_str z t,.bool_tuple c p O9m,standAt,#[t',rfl],?a06 p ?qL,.(by rw[q];simp),?c (?MO),?eU es ?h,Reps.same,H b=?U,?jD ?a8,?oM C ?s,W.keepIn,?wV=?FM::?vK,?aT e env,(x,NameKind.free),upd H ?s ?qL,.bool_list c ?a1 O9m,X.env.scope,?pD=?U->?j7=?U,∀b∈fp,?mO,[?I,?g j],?l2 x=?aZ,id ?qS,.none_list ?a1 O9m,Cls X.K C,if v<0 then(v+?aR).toNat else min v.toNat n,?qB m=none,LLInt->?LQ,?g fam,Sem ?cP,((0:Nat):Int),?eN (?G4 b z),p.getD,qe2 (qc3 ho),i<vs.length,k b ob q,kk c o hc e,?a0O C,?a1X p ys,I.ok.mod.kin,?e6 h TO c d,#[h0,?_],ws.toArray,tn i ?t,?sI es ?h,ws++[w],seq_tuple_add,.tuple_bool b p O9m,?e0 hq,(n,NameKind.free),Aj8 h0,(?aF T),∀f,Oi (?qB f) (mA f),?eU ?d6 ?h,?a2O D,.list_str z t' ?a1 O9m,x∈?yS,Om K fd ps [],d0::ds,I1.kept,?D ?G,?a1F e te,?c ?cA,.UnaryOp,s₁.heap.Ns,preSum,q _ ?kS,?c ?lQ,λi=>?q7 i 0,putF f v fs,(?LT).symm,wpAny_standAt,∃a b c,w=?h3,EN ?b8 e,(?gW ?z5).objs.size,.(nomatch hf),.int_int c t i t',dx≠x,.bool_int c i t,?a4N (?zT),I.base,.list_bool b ?a1 O9m,PySem.W.emptyDict,?bS->?aB,w.drop,S9 P w H h,(xs:LLInt),(i==j),H2.objs.size,List.foldl,wpAny_Name,getAttr,?B8 tI,?kX [ov] (?yL ov m pl),#[o,ho,hd],attributeBase,pb.isList,Int->V,ys.length<sizeLine,Q () s',.tuple_none p O9m,?r (?kZ),?c ?z1,#[v,H,I,r,h],Ni.new _ _,J.go i H,x.2≠NameKind.cell,_::_::_::?d8,?gN pos (?vK),k b o hc e,I.write,Heap->Prop,(hs.2 b (?a1V ?dP (I.ok.cab x c hfn hc))).trans,Result->?fK,seqIndex_neg,getMethod,.int_none c t,λ_ _ z=>z.elim,s'.os=s.os,?lS=none,?mI p.1,?vF apos.atName,?a39 acc l,(f v u),?gO ?s,Aj7 h0,J.stop i H,bM X.env.cells ?iW [],#[o,_,ho,_],λf=>(?n3:Int),?a4U p ys,{ cls:=?b4,data:=?Y ?M n },isTrue,ws.findIdx,Os ws fam,{ cls:=?aF ?kN,data:=?iT #v[?g lo t,?g hi u,?g 1 v] },#[u,r,l],.str_bool c t b,?a17 e,?q (a=b),?a4F b,env.cells.lookup,.ins C dx fs,.tuple_int i t' p O9m,.(by simpa using h2),λxs ys i=>?oD\/ys.length<=i,h.objs.size<=a,De ?US,X.pn++Ae,its.toList,mA ?a2,i.toNat,Or.inr,X.fn x=true,?wR∈sc.names,acc++its,h.Ns1 dx mA,?mN ?bE,ds[i]?=?c d,?a23 k,.(by ext DB),.str_none c t,I1.laid,.int_bool c t b,envOfC,.int_list c t ?a1 O9m,.(by simp[E4,eqDs]),(?gN cpos (?vK)).any,#[a,vs,rfl,q,r],Builtin.Slice.slicePlaces,.(by simpa using hk),FnScope,its.length,(f,first),pa.isList,.str_tuple c t p O9m,?a3H ns,(y=?qF),I.ok.noex,seqIndex_of,Loc ?vV x,typeIs_int,a<h.objs.size,.bool_str c z t,x∈ws,items.size,.list_none ?a1 O9m,relabel sc ?h,imms ds,∀vs H Q E,?l0->?JJ,?a4F a,?TO+?dN<cLine,Rep X.K H v e,s3.heap.objs.size,x∈?mH,s.TypeIs,#[_,?gU,rfl,rfl],rX _ _ e,o.slots,?c3 y v,j<xs.length,#[m,hn,hl],H4 D=?c ?f4,(sizeLine:Nat),H p=?v7,D->?cP,qb9 hQ,qa0 hj,PySem.Within,o.dict=none,xs.map,u.keep,?a33 p ys,k b o (λz=>hc (by simp[z])) e,.bool_bool c b,.none_int i t,#[a,b,c,rfl],noFill_tuple_add,sliceBounds lo hi ?a5 n,#[o,e,c,d],PA X es t,-?aR<=i,pyIter,?aE->Sem ?aE,?ZX Int Int,W.isFn K ?cA=true,eqDs_refl,#[v,z],X.s₀.heap.get? b=?n,.str_list c t ?a1 O9m,I.ok.bsz,W.codeIn K Dr ?aY=true,n=?cY\/n=?hZ\/n=?mE\/n=?fE\/n=?dQ\/n=?s0,.same _,λh' eb=>#[rfl,?a0Q (λb o hb e=>eb b o hb e)],?ZR H ?kO,.int_str c t z t',λτ2 H2=>tc τ2 H2 λb H3=>if ?kU then te τ2 H3 ?HI else Pv ?aO ys τ2 H3,sc.names.all,?gR::r,?e0 hq',H1 a=?p0,.list_int i t' ?a1 O9m,callerA,∀f∈?bO,?iF,its.toArray.size*k.toNat,(cP i),Un.kept,SqT X.K H p ys,PySem.W.methodObj,#[us,[]],?gT ?bG::us,(n,NameKind.cell),#[e,?_],?a2O a,(j:Int),.tuple_str z t' p O9m,{ s3 with heap:=s3.heap.push { cls:=?aF "slice",data:=?iT #v[vl,vu,?aK] } },?o->?aB,?c8 P w H h a o,lH P w K mg ?aX A ?a6 s H,Rep.inj,eqD e d,BindsTo,c.kind,Rep X.K H x d,?bD HO,if ?PX/\f ∉ acc then acc++[f] else acc,P.zip vs,w.length-1,o.cls=?c7,.tuple_list p ?lG O9m,?a1D 1,.(by simpa using h),putF f y fs,.bl ?cW,.str_str c t z t',.(by rcases Te h with⟨h0,⟨a,rfl⟩|⟨a,b,rfl⟩|⟨a,b,c,rfl⟩|⟨a,b,c,d,rfl⟩⟩|⟨h0,rfl|⟨a,rfl⟩|⟨a,b,c,rfl⟩⟩|⟨h0,rfl|⟨a,rfl⟩|⟨a,b,rfl⟩|⟨a,b,c,rfl⟩⟩),∀(hch:∀b∈ch,?PD),a,.(by apply ?i #[?MF,?eY,λys' τ' H' p'=>?TE,?jC]),.(by apply ?i #[?MF,?eY,λσ' H' p'=>?TE,?jC]),.(by apply#[λi m ys τ H=>m=xs.length-i/\?eR/\?cI,?VN,?_]),.(by rw[show putF f v (?sD)=(if k=f then(k,v)::r else(k,x)::?JC) from rfl];by_cases hk:k=f),.(by apply#[λi m σ H=>m=xs.length-i/\?eR/\?bW,?VN,?_]),.(by have hc:=Zi hij hj;rcases hc with⟨rfl,rfl⟩|⟨rfl,rfl⟩|⟨rfl,rfl⟩),.(by unfold Aw;rw[?iM,?mL,?iM];rfl),∀(hs:?vQ:=by rfl),a,∀(A:Around) (outer:?cO) (s:Shared) (H:Hp) (vs:?o) (Q:VK) (E:XK),a,∀(hs:∀x,foldedSetIterable iter ?h x=?T x:=by intro _;rfl),a,.(by intro Ae s σ H x v vl vu lo hi sl Q I rx hs pl pu h),.(by subst e;exact I1.fpOk ?a8 (I1.hok.fresh ?a8)),.(by let ?LA:=?e4;have hlen:=r'.length),∀(hl:?a1K ?dR),a,.(by simp only at hc hd hc2 hd2;subst hc hd hc2 hd2),.(by simp only[eqD];by_cases hl:?VX),.(by let#[σ',H',I,q]:=h;exact#[σ',H',?PZ,q]),∀{t u:TS}{D:Ends}{σ:St}{H:Hp}(P:?F),a,.(by let#[sl,e1]:=?a24 ?PH hx),.(by intro Ae s σ H x vs v us Q I rx rv h),∀(e:H a=?p0)(c:?w2),a,.(by by_cases hk:?xL),.(by rintro i m ys τ H ⟨rfl,hi,p⟩),∀(hu:?GS),a,∀(x:V)(lo:?bS)(hi:?bS),a,.(by cases rx;let ?HR:=rv.one),.(by have l1:=rv.length;rw[qa4]at l1),.(by let#[z,its,n,r,hl,e]:=I.lstM hH),.(by let ?LA:=?gK),.(by rintro i m σ H ⟨rfl,hi,p⟩),.(by let#[e,n,ne,nf,d]:=?SS),.(by exact ?ZS hb Q),∀(σ:St)(H:Hp)(Q:?F),a,.(by cases (show ?pH from h)),∀(ho:P9 X (?aM op) r),a,∀{fd:FuncData}{ps:?J},a,∀(hok:S9 ?aN X.w H' h'),a,∀{c A B:Prop}[Decidable c],a,∀(hz:?VZ),a,∀(prog:Program)(w:World),a,∀(sc:Scope)(N':?J),a,∀{mA:?eX},a,∀{a b:Expr}{ta tb:TE},a,∀{z TI TO i1 i2:Addr},a,∀(i j:Int) (t u:Tok),a,∀(h:?fD),a,∀(h:SqT X.K H a xs),a,∀{B:Addr}{H H1:Hp},a,(its.toArray.size:Int),λa e=>?_,kY cap σ,?vS∈sc.names,?a4P ZN,?a4O (?N ys),?qU x=?bM,.Pass #[0,0,0,0],?g ns.sum,?a4U a xs,#[j,rfl],ZM K n x y H Q,?a2Q h ?aK,sc.isCoroutine=false,?aG->?cP,.(by ext YR),Bn X Ae σ H' { s with heap:=h',gens:=g',drawn:=d',toks:=t' },λi x v e1 e2 e3=>?_,UK Q x H1,?a1F ?sM (At6 i),#[a,e,#[xs,hq],q],ds[j]' ?f2,?e9/\?r7,(qx5 _ _),?hS a=?n,Or.inl rfl,?a1D 4,Int->?L3,.(by simpa using I.len),subscriptTail,?a4N (?FW==0&&?g3==1&&(?gM-?cS)==items.size),subscriptTail_builtinR,"type.__call__",cellsFrom,Bn (X.wish E) Ae σ H s,?sU x=?c a,λm=>xs[i+m]?,?a2P ?dN,Bn Y [] τ' H' s',#[hr,I4],.(by rw[qc6];exact hz),(?cT,?jK),eqDs_len,?a39 [] l,(x==("__debug__":Str))=false,#[_,_,_,_,o,_,_,e,_],X.s₀.heap.FunFrames,uS K R x H1,(?wM).findIdx?,uI X.K C m g,(?n1 hb),((?cS:Nat):Int),#[rfl,rfl],PySem.W.handedIn,Mod X.K ?eJ ?dM,#[_,o,ho,_],?QN i ?c4,#[its,r1,p1,_],(vs=[x]),I.stkSub,uR R vs H1,Subscript_,#[?uY,ho,hc,n,hd],(ns:?z),∃o,?pF,F.slot_int_rmul,?aU l=?y8,(?cT,?zA),PT X c tc,PySem.W.takerIn,?l2 x=?dW\/?vZ,?a13 ns.length,#[its,rv,pl,hz],?a4P MY,(show False from r).elim,k b u (hb b n) q,ZJ i σ H Q,∀b∈fp,?pB,(?a0V ?K2 ?K2),c ∉ fp,PySem.W.cellsFrom_some,#[hz,hTI,#[u0,v0,hTO],h1,h2],w.length=3,∀σ' H',?J7->u D σ' H',e=x\/H e=?c (.own x),#[sl,hL],λp hp=>?w hp (by simp[Ge]),?FE ?bG scope.names [],∃t,u=Value.float b t,#[p,u,v,hp,rfl,rfl,y1,y2],#[_,rfl,r],PySem.W.lookIn ?a2 od,λz=>(hch c z).2.2.1 x c e rfl,CE ?a6 P w H s Q u s',zM x y H Q,?a1E ?a2,Data.seq,fs.length<1000,b ∉ X.ex,W m σ H,?a0I u s',i<xs.length,PI X tg iter wi,(?TD)/\∀p∈?zI,p.1≠b,PS X (?sO [?QD] e pos) (VJ te ?C8),(Q ?g5 H),(aC ?r5),#[m',hm,w7],λx c e=>?_,λy H4=>?B0/\?y4/\Pv ?aO ?iE τ2 (upd H4 D (?x ?iE)),.(by rintro rfl;exact h v qb3),λc hc=>?_,s₁.heap.get?,u σ H1 Q,#[rfl,fin],#[main,?_],(?sT a:Key),PG X tg g,#[u,rfl,ru],?oP ?zL [],{ s with heap:=?O7 },?a13 kvs.length,uK Q x H1,(vs++ws).toArray,{ cls:=?b4,data:=?Y its'.toArray n' },?i1 ?A6 0 lo,mainGlobals,?c2 k xs,(zs++[y]),λh' st' sb=>?_,#[_,hen],zL K x lo hi H Q,.compLoop,(σ[j]?).join,us.toArray[j],?dR/\?a1X b ys,.(by ext YA),(?b8 b u e).stay,t { nx:=λ_ H'=>Q ?u H',rt:=Q } ?o3 H,subscripted,κ × Value,?ZR H ?M8,Rep K H' v d,#[o,e,ex],∀x:Str,x≠"__name__"->mb x=?t4,Paired.mapP,#[hz,hTI,#[u,v,hTO],h1,h2],hb b hb',λys' τ' H' p'=>?NN,#[_,_,_,e,_],"__getitem__",P[i]?=?cX,ZL K x lo hi H Q,(n,(?zB n).getD 0)::acc,ZQ K n t v σ H Q,I.ok.hd hc,w.length=1,ZK K f D σ y x H2,?a0O b,ItB Q x H1,#[its,r,pl,hz],mX K n x vs H Q,#[v,r,rfl,_,h2],call_list_seq,EqD X H s d,uQ K xs H Q,IQ K xs H Q,zK tb σ Q x H1,?a1X p xs,W4 f y fs,P σ' H',?ZU M (storeName ?h x u),?a3S f,?a13 n,qd0.mp hf,putF f v r,#[p,v,hp,rfl,rfl,y],Mut (H x),bindArgs,ws[k]?=?lB,#[m,?L7,_],UnaryOp_,vs.length=ps.length,∀name,?H0=?c (?zK),?a3I ?pV,j<1073741824,#[a',us,e,hq,r],?r WData,?LO=?rO b,c.locals,?lX x=?aZ\/?lX x=?cZ,qa5 ?BS I.sz,?ZL (call ?mG (v::us)) ?b3,H b=?n->?jA=?n,Hk ?jO A,#[a,xs,rfl,hx,hw,q],sIx n n hi,IrI C g x y H Q,Om X.K fd ps ds,rX _ _ q,?qB f=?L,#[p,ys,a,b,c],Ge X sc N' C s H fp,.set S n,#[?MN,ho2,hc2,n2,hd2],?b8 p _ hk,xs[f.toNat]?=?c q,hl i σ H hi p,λh' tk k=>#[_,H,?lY k,?_,q],?rG s.gens,I.base.tbls,r x xs H Q,∃t,MU (kU Eo P w K mg ?aX N ?aY ?pV f Dr A ?a6 s H E).nox (Ht st) t/\?IB,#[ho,ho2,?_],?sW n==?aZ,?a1F ?rQ (tCB r t),?NY I r r',λv hv=>(qg4.mp nd).1 (qr6 hv).1,λx a e=>?_,compPost,X.prog=P,(n,v)::r,HP X Ae σ Q s',#[σ,H,I,h],#[u,e1,e2],XO ?vV X.N sc N' cap=true,?b7 a o hk,∃t,u=Value.bytes b t,lF ?t x dx C mA,?B7/\o.data=?Y its n/\?a13 its.size/\?P xs ?zJ,.none_none,#[its,r,ht,hz],SqT K H' a xs,R x y H2,uL C m sp dvs E t σ Q x H1,qq0 (pl:=pl) (Dz ?gS ?t0) ht,its.toArray[m],PA X ?d6 t,Int->Int,(?f9 e').1,base.Ns ?HZ mg,(X.wish E).Ok,#[o,es,ep,ho,r],#[z,H3,I3,r3,k,e,q3],.bl (!c),#[its,r',pl,hz],Pe ws fam 4 [w] [],I.base.frzs,[op,op'],PS X st t,#[u,r,?_],?a2W g k,?oS<=?dN,∀b∈fp,∃o,?cU/\?d2,λσ' H' p'=>?NN,op≠.NotIn,?iU σ H1,#[_,?gU,rfl,rfl,_,rfl],e0.hok.fresh,(?rO a:Key),?ZR H' s2,LLInt->LLInt,k a _ ?dZ e,s.heap.Ns ?q1 m,qa8 this,PA X ?b5 ta,#[xs,x,hq,hx],?CN I hx' hy',∀σ H,Pv ?c4 σ H->?bT,?aU c=?n->?gO c=?n,#[os,hos,hcs,hds],#[its2,r2,p2,_],{ D with nx:=N,ct:=N,bk:=D.nx },∀x∈P,?GF,#[ok.mod,ok.kind,ok.glob,ok.blt,ok.above,ok.inj,ok.has,ok.cab,ok.hd,ok.frames,ok.stk,ok.exf,ok.bs,ok.bsz,ok.noex,ok.exfs,ok.funs,ok.frf],.(by simpa using rv),#[b,ws,rfl,q',r'],A.depth+1,λf hf=>?_,{ s with heap:=h',toks:=tk },A.handled=none,n<=1000000,r xs H Q,.ins C ?s [],#[i,rfl,q],?a4O ?f4,#[xs,xs[i],q,by simp[hlt]],4*l.length,UJ Q x H',(a+b)%fam,?o8 (?lW),eq_of_beq,?q (x=y),MW x vs H Q,#[A80,dd2,data2,sl2],.frz o u,o.data=.dict es ep,(?lW).kindOf,?jH UInt8,builtinsNs,∃c,?zB n=?bM,(fam:Int),I.hok.laid,T.keep _ _ _ st5 λb hb o e=>(?OC).1,ZO K n neg x y H Q,again I7 n7,#[xs,ys,xs[i],ys[i],qa,qb,?bK,?bK],PGs X es t,hk c o n1 n3 n4 n5 e,ZP K R vs H1,.of_refs hab main,∃u,us=[u]/\?cB,?a4J ?qW,IrU g x H Q,(vs=[y]),S9 ?aN X.w H' ?fH,tn i s7.heap,?ZP cd,(?gN cpos (?wV)).all (λx=>!x.1)&&(?O3 cpos (keywordEach [] ?h)).all (λx=>x.1.isSome),Sf _ _ hv,∀c∈?f6,p c,?g7->Prop,?a1F o to,#[o,es',ep,ho,r],Builtin.Slice.sliceAdjust lo hi 1 ?aR,?gP it a i,?n6 z h' h3,ob.slots,∀x∈sc.names,?yC,MV r' tc σ Q y z H3,#[n-?aO,O9m,rfl,hlt,p'],List.length,#[?rV,?rV,?iG,?UQ,?V5,?LC,?KB],?A5 N ps ?e2,V.ref ?bG,Pv 0 σ H,?q (?iH),hn.sameBut,?aU b=?U->?j7=?U,λj y v' e1 e2 e3=>?_,zQ K R x H1,Reps.inj,#[u,rfl,rx],t D σ H,J.yld i H x H',?a38 ?jO,backToKw,Q (?g ?g5 ?kF) ?i8->?VT,#[o,ho,hc,n,hd],#[u,hr,h4],(?l4).push (?vO),H' p=?uP,uT K R vs H1,cap.length=N'.length,hd σ H p,I7.pin ?s3 (qg6 _ (qg6 _ (Pd hb e))),Str × NameKind,Bn X Ae σ' H' s',?sV vl lo,b∈X.fs,?a1F ?sM (tC v),I.ok.exfs,.(by rw[Al (hm b _ q λz=>z)];exact q),preSum_sum,(i+n).toNat,IT x vs H Q,?r Key × V,r x y H Q,(?xB).map,Vals.append,#[H3,I3,q3],PA X [a] ta,?cU->?sC,PySem.W.plainOver K C=true,#[f,h,?a0],Xn ?aN X.w X.K tg J fp it tn,λz=>(hch _ z).2.1 rfl,b8 fp s5.heap,∀d∈ds,?J1,.(by have:=r.dp;omega),?cJ o f pos',(?iP-1) / 8,λi=>(?rZ).getD ?cW,.(by simpa using hs),∀b∈fp,?a3F b,ih _ ?RZ,PG X ?sM ?C8,?HL b=?n,#[xs,ys,qa,qb,he],H1 p=none,?a4P uP,∀σ H,Pv n σ H->?bT,(b∈X.ex\/?ZV b)/\?jF/\?HC,?ZL (?AO) (?a4W ?yT Q),λw hw=>h w (qb6 _ hw),?P dvs ds,I.base.slot,hd ys τ H p,Mk X.K C f,[s1.heap.objs.size],λc H1=>Q (!c) H1,?a2W a sysModules,[s.heap.objs.size],IsRangeIter,?aU p=?y8,hl i σ H hi pp,∃o',?j7=?c o',.(by have:=r.un;omega),?n6 e h' h3,?a3S ?h3,#[I3,hn3],{ s with heap:=?gW ?z5,toks:=tk },f ∉ ws,ItFld K f Q x H1,I.unwish,?o->?F,?sV vu hi,?f7 x a (ltc x a e),λ(m:Nat)=>xs[?S3]?,#[m0,w0],uU t u vs σ H Q,(?c2 k its).flatten,∀y∈sc.names,y.2≠?lV,#[f0,f1,f2,f3,f4,f5],?S K H' vs ds,λb o e=>(e0.bs b o e).1,UR R vs H1,b≠it->?OT,?eT x pos',s.heap.IsSliceOf sl vl vu ?aK,?x1 (t':=s1.toks) ?sG,#[σ7,H7,I7,n7],Dz ?lP ?gD,w.length=0,∀C s₀ H₀ fp,PG (?a1G C) tg g,.(by rw[sizeLine_eq];decide),pl.isList.typeIs,((?JX:Nat):Int),seqIndex?,?w (show ?a4N false from hs) qe3,scal x y=true,fitsIndex_both h1 h2,#[i,j,rfl,rfl,q],wpAny_comprehension_free,#[v,o,ho,hd],.(by simp at e),#[p,bs,a,b,c],hA b (?vI),Calls.Name_function_global,Int->?cP,UO K xs H Q,#[?g ?pJ,H,?gY,#[?q3,by rw[qc5,hlen]],q],"list.index",MU X ?h5 tb,q _ I.fresh,?cP->?aB,Addr × Obj,?bD Expr,Hk ?jO X.A,#[xs,hq,hx],qi9.mp hb,?c (?gT ?s)=?c r,∃u,?gO e=?U,∃o,?dX/\?d2,qb6 _ hb,Fg.mpr rfl,iR K xs H Q,(?AL).names.lookup x=?aZ\/(?AL).names.lookup x=?cZ,E9 K x ?aY st f fd,λτ2 H2=>te τ2 H2 ?HI,?w (show b∈([]:?aV) from z) ?G,λo=>o.bind λj=>?I6,PySem.W.hasDictIn K C=true,PySem.W.makesIn K C=true,[s.heap.objs.size,p],Walks.list (show X.A.in1.handled=none from hh) ?s p ?_ ?M,.(by rw[hC];exact ?sA),h₁.get?,fs.length<=1000,?gQ ?g2 ?C5 (?sL (?l fa) #[?e3,[]]) (λr s'=>r=.ok (.ret ?m5)/\OldK ?sJ ?fH/\s'.os=s₁.os/\?qA) ?iA,x.2=NameKind.local->?l2 x.1=?c NameKind.local,hl i ys τ H hi p,?aE->?BL,#[mA,O,r,_,_,_],?a4P UP,?a4N (! ?q (?bE a=?bE b)),λm hm=>hl m (qb6 _ hm),∀b ps,H b=?c (.tbl ps)->∃more,?jA=?c (.tbl (ps++more)),?a4F (?a05 e ?cL),(mixKind prog w).is,(?iK+(m:Int)*1).toNat,z.sameBut hs (cne y c e),#[?g ?g5,H,?gY,?bV,q],#[h1,?M7],λi h h' st k=>st.at λo e=>k it ?G o e,i.toNat=j,λw=>w==f,Nat->?aB,X.H₀ b=none,?cU/\?Z,mW K xs H Q,Ui CX X E,#[_,_,_,q],?g (j:Nat),?o->?ZX ?o Nat,?kL B H H1,?a4U a ys,TI K H' v ns,op≠.In,∀C s₀ H₀ fp,PE (?a1G C) elt te,tn 0 ?t,?P ys its,?P [x] us,(?cN x t),#[a,vs,rfl,q1,r],?iC p hp,?a4N (g==k),Nk X Ae H' b,(i=0/\j=1)\/(i=0/\j=2)\/(i=0/\j=3)\/(i=1/\j=2)\/(i=1/\j=3)\/(i=2/\j=3),σ[i]?=?x9,#[qa,qb],i<its.length,?x1 (t':=s1.toks) hk,its[i]?=?L,I.ok.inj,.(λv q=>by ext YO),tn i ?fH,A98 g x y H Q,slicePart_none,(sb.2 b hb).trans,qa5 (X6 xs lo hi) hz,env.scope.kind==?jN,.(by simp[putF]),?a3H p,FG ?US&&ds.all (λe=>D5 xs e (?zH-1))&&(?q (?zH<2) || Ng xs (ds.map YD)),?zW (t':=s1.toks) (λb u e=>?j3) ?a8 ?_,?a3M b,#[xs.length-?aO,O9m,rfl,hlt,p'],?aU p.1=?c p.2/\H p.1=none/\p.1≠X.env.locals/\p.1 ∉ X.fs/\∀v,p.2.data≠?p9 v,λ_ s'=>SP X Ae D .next s',#[v,q,e,h1,h2],#[a,vs,rfl,hq,_],#[sl',e2],q p _ (Same.new hp) (.of Ab),?a1F a ta,mV fam ws,ns.length<=n,A.units+1,?r Key × Addr × Value,pre_splitW hpre,?a1X a us,?a1M h,∀b∈fp,?SU,I.ok.frf,#[p,ys,a,b],?z2 e ?h whole,(ql0.mp hp).elim,#[o,e,c],wpAny_isTrue_Compare1,us.length=ps.length,(?cT,?AO),lo+?w8*1,Q ?i5 H',{ s with heap:=h₁,toks:=s.toks+([]:?jG).length },(?bO).length,h.ok ?b8,#[?AU,?_],wpAny_assign_Name,Nat->?Q0,∃sl,?j7=?c { o with slots:=sl },sc.isGenerator=false,?a02 qb9 #[_,rfl,qb9 h],λ_ _ z=>no z,λb z=>?w z (noA b),us'.toArray[j],.(by simpa using q7),λe=>?CO,qb6 _ hv,slot_list_getitem.lookup,?a1F o ta,#[h1,h2,h3,h4],es.toList.any,I.pins_of,#[o,e,_],?a3T (?a4F ?sM),λb o e hx=>?_,uM tb σ Q x H1,ds.length,∃t,u=Value.int i t,Bn X Ae (σ.set i ?lQ) H s',X.A.units+1+?dN<cLine,h.objs.size,qb6 _ (?hQ),hd σ H pp,hb wh Ae s1 σ H1 Q I1 q1,.(λv z=>by rw[d]at z;cases z),xs.eraseIdx,λr s'=>r=w/\?a0I r s',uN K x lo hi H Q,?a4P zO,I.base.tups,X.A.handled=none,λi j=>?g ?g5,.(by simp[eqDs]at h),h'.objs.size,H dx=?qJ,?w rfl z,[v,ov,iv],?a0O a,Builtin.List.listTooLong,?a33 a ?lZ,a b _ (?a48 h) e,∀C s₀ H₀ fp,PTs (?a1G C) ifs tc,?P ys ?eQ,xB.extBut,λ_ e=>?qK,(i=0/\j=1)\/(i=0/\j=2)\/(i=1/\j=2),?HP=?sT b,#[?c4,?a0,?lC,h0],#[its,_,p,_],Pe ws fam n layer rows,K.In ?aX,∃t,u=Value.str x t,Dy X.K C f,?a3T (f ?s2 (?g j u)),(us++ds).length=ps.length,?cK ?c e,Rn ws w fam,ds.length=es.length,#[_,e,_],?a13 ys.length,?aU it=?n,I.tuple_inj,Heap.get?_update_other,Rep.same,eqDs (E4 a) (E4 b),sIx n 0 lo,#[x,n,d,a,b,c,e],#[v,r,rfl,h1,h2],.(by subst z;rw[r]at mu;exact mu),UN o i v H Q,λ_ s5 _z=>?_,∀(hs:∀i x y zs τ H p,?aL->?pU->?qC->?aS->g ?aW τ (?vH) λτ2 H2=>tc τ2 H2 λb H3=>if ?kU then te τ2 H3 λy H4=>H4 D=?c (?x zs)/\zs.length<sizeLine/\Pv ?aO ?I1 τ2 (upd H4 D (?x ?I1)) else Pv ?aO zs τ2 H3),a,∀(hs:∀i x ys τ H p,?aL->?cI->?a4M τ ?BZ),a,∀(hs:?a2I ?BZ),a,∀(hs:∀i x y σ H p,?aL->?pU->?bW->?aS->g ?aW σ (?vH) ?sH) (hd:?PC),a,∀(hs:∀i x σ H p,?aL->?bW->?a4M σ ?sH) (hd:?LX),a,.(by apply ?L0;let#[x,H1,I1,rx,a,dx,fs,ex,ea,l,q]:=_z;subst ex;obtain rfl:?n5:=rx;apply T9 I1 ea c hm l ?_),∀(hg:?QJ) (ht:?VH) (he:?SM),a,∀(hs:?a2I ?RI),a,.(by have I1:?vA:=?a0Q (λb o hb e=>?T6 e);let ?BH:=id st'),∀(hs:∀i x σ H,?aL->?bW->g x σ H ?sH) (hd:?LX),a,.(by have I3:?tG:=I2.call' hos hun hok hbare (Bn.fpCh f2);have f3:Nk X Ae H' C:=I2.fpOk hC hHC;let#[_,k1,_,k3,k4,k5]:=f3),.(by let#[j,h1,h2,h3,h4,h5]:=MS he;let#[w,ew,rw']:=?j6 h2;have hl:=r.length;have hn:=EF;have fin:?a0I w s:=#[z,H,I,rw',q]),.(by first | rfl | simp[Around.under,Code.weight,Code.isCreation,Code.isGuard,Code.isCaller,Code.frames,Code.isFrame,guardIds]),∀(pa:PlainAttrs T)(slot:Slot T ?a2 id)(hty:typeOf ?mG=?T (?aF "method_descriptor"))(hm:MtR X id r)(ho:?NF)(ha:?L2),a,.(by have hc:=MJ hij hj;rcases hc with⟨rfl,rfl⟩|⟨rfl,rfl⟩|⟨rfl,rfl⟩|⟨rfl,rfl⟩|⟨rfl,rfl⟩|⟨rfl,rfl⟩),.(by have I1:?IE:=?lY (λb o e=>k b o (by simp;exact qe2 ?dP) (?j3))),∀(hs:?eU ?b5 ?h=[?U1,?GC]:=by rfl)(hs2:?eU [b] ?h=[?GC]:=by rfl),a,.(by intro value slice Ae s σ H x y v u Q I rx ry h hs;let#[p,xs,i,z,rfl,rfl,hq,he,q]:=h;cases rx;let ?cV:=ry),.(by rw[e]at e';cases e';rw[d]at d';injection d' with d1 _;have:its=its':=by simpa using ?cK Array.toList d1),.(by apply Dz (?ZS hb _) λu s2 _z=>?_;let ?q0:=_z;exact hf v u s2 x y H2 I2 r1 r2 q2),∀(mu:?JE)(he:?GT)(k:∀b u,?rY->?vW)(heo:?RB),a,∀{x qual:Str}{st:Stmt}{f:Addr}{fd:FuncData}{N ps:?J}{k:Nat}{sp:Sp}(F:?RH)(S:?A5 N ps ?pV),a,∀(hf:∀v u s2 x y H2,?ZR H2 s2->?e1->?m7->?KY->?e ?k X.A ?yT Q ?m s2),a,.(by let ?HR:=Ul r;cases ru;let ?GH:=?e4;have hh:?V6:=?IS),.(by simp only[sliceBounds,HT.sIx,Option.getD_none,show ?g3 > 0 by decide,if_true];by_cases h:i<0),.(by let#[o,e,d]:=T.obj _ _ st5 b hb;exact(?OC).2.1),.(by have e2:?a2W op CmpOp.NotIn:=?a1P h2),.(by have YN:∀c o,H c=?n->?GO:=λc o e hm=>by rw[(hf c hm).1]at e;cases e),.(by cases rx;cases ry;let ?G2:=?c9 ha;let ?M0:=?c9 hb),.(by let#[σ3,H3,I3,n3]:=q3;let#[m',hm,w3]:=hN σ3 H3 n3;exact#[m',hm,σ3,H3,I3,w3]),.(by have e1:?a2W op CmpOp.In:=?a1P h),.(by let#[x,H5,I5,r5,y5,st5,fr5]:=_z;have I5':=I5.pinned (JA fr5) (T.obj _ _ st5)),.(by rw[ql7 (?n1 hj)]at e2;let#[u',r',q]:=hl j y v' e1 e2 e3;apply#[u',r',?_]),.(by let ?LV:=hg;let ?hT:=?e4;let ?j0:=?iY hx),∀{S:?s8}{NE:?SH}{a b:Addr}{xs ys:?o}{n:Nat},a,.(by let#[o',es',VA,ho',r']:=hm;rw[ho]at ho';cases ho';exact#[_,es',VA,hL,r']),∀(h:∀{N:?F},(∀σ' H',?J7->?rM)->t { D with nx:=N } σ H),a,.(by apply#[λi m σ H=>m=n-i/\?g4/\?bW,?uV,?_]),∀{to:TE}{t:TA}{name:Str}{apos cpos:Pos}{T id:String}{r:?mP},a,.(by intro Ae s σ H R I h;apply Dz (?ZT hl h) ?gD),.(by subst e;let ?BH:=st;exact#[o,e,?V0]),.(by have hu':?UV:=by simp only[dep]at hn;omega),.(by rw[Rv hl];have z:?a2W ds.length es.length:=by simpa using hl),∀(X:?mY)(I:?KT)(hg:?v6 K C ?a2=true),a,.(by have hu':?AP:=by simp only[dep]at hu;omega),∀(hs:?pR e (?c (?QD)) ?oO ?h=?sB:=by rfl),a,∀(hbase:?y1 o ?a2 ?h (?mA)=?mA:=by rfl),a,∀(hs:?QE)(pl:?OF)(pu:?Q1),a,.(by apply#[#[o,e,ex.1],λa e2=>?_];cases e2;exact#[o,e,ex.2.1]),.(by let#[i,j,rfl,q]:=h;let#[u,w',rfl,?cV,?vG]:=Ze r),.(by subst hj;rw[hi]at e1;cases e1;rw[qp4 hiσ]at e2;cases e2),.(by have hf:H1 ?h6=none:=I1.hok.fresh ?a8),.(by let#[_,_,_,_,o,_,_,e,ex,_]:=?K6;exact ?IG),.(by let#[ia,ra,pa,_]:=?b2 Yt;let#[ib,rb,pb,_]:=?b2 OQ),∀(hcap:?KQ)(hi:?HB),a,∀(hi:?iI:=by rfl)(hx:?AE:=by ac_rfl),a,.(by cases y<;>exact ?QO),.(by let ?t2:=y;subst e;exact hs i x ys τ _ ?rT p),.(by let#[p,ys,rfl,hq,q]:=h;let ?NZ:=Ul r;cases rx),.(by rcases Dq hv with⟨j,u,rfl,rfl⟩|⟨y,u,rfl,rfl⟩),.(by apply ?S6;rcases ?p3 with z | z | z),.(by let(?a3D lk hcd):=F.ex),∀(hl:?a1K ?dY),a,∀{pl:?w7}(he:?UK)(c:?w2)(hm:uI X.K C m f),a,∀{ta:TA}{p pos:Pos}(hg:Gl X ?kN)(hm:?eJ ?kN=none),a,.(by let ?t2:=y;subst e;exact hs i x σ _ ?rT p),.(by simp only[qd9,qj2,or_false,or_self]at hf;subst hf),∀{x:Str}{ps:?J}{j k:Nat}{sp:Sp}{p pos:Pos}{e:Expr},a,.(by let#[it,fp,tn,J,H2,e,I2,T,st2,f2,hW]:=h2;subst e),.(by rcases Dq hb with⟨j,u,rfl,e⟩|⟨y,u,rfl,e⟩),.(by subst e;exact ?j #[?rS,?PI]),.(by unfold Aw;rw[?iM,?x2]),∀(hs:?eU [a] ?h=[?U1]:=by rfl),a,.(by exact#[f.2.2.2.1,f.2.1,f.2.2.2.2.1,f.2.2.2.2.2]),.(by let#[d,rfl,q]:=q1;cases r1;exact qk2 #[H1,I1,q]),.(by let ?R8:=hg;let ?hT:=?e4),∀(hg:?q9)(hm:?yP)(hv:?t4=?U),a,∀(hl:?a15 ?eR ?dR),a,∀(x:p7) (x:p8) (x:p9) (x:yM) (x:p11) (x:p12) (x:p13),a,∀{g':?jH GenState}{t':Nat}{d':Drawn}{ch:?aV},a,.(by have e:b=s1.heap.objs.size:=?i4),.(by subst e;exact ?j #[?rS,?OB]),∀(len:?AN),a,∀{l:?qD}{acc:?h1},a,∀{pl:?w7}{Q:Value × ?y->?fK},a,.(by cases (show ?H5 _ _=Data.cell v from q)),.(by exact qb6 _ (ih (λy hy=>hn y (qb6 _ hy)) h)),.(by have hx':=hx;let ?A2:=hx;cases rx),.(by rw[Al (?a48 h)];exact e),∀(ha:n<=xs.length)(hb:n<=ys.length)(he:NE xs ys n),a,∀(hcd:(x==("__classdict__":Str))=false:=by decide),a,∀(k:∀b u,?NV),a,.(by apply ?QH),.(by have hk':k=NameKind.free:=?A4),∀(hp:PassesOwn ?k X.A ?h ?m),a,∀(hline:?a4N (apos.endLine==cpos.line):=by rfl),a,∀(h:ta σ H λx H1=>tb σ H1 λy H2=>?KY),a,∀(hn:(?wM).length=n:=by rfl),a,∀(r:?mQ),a,∀{qual:Str}{scope:Scope}{f:Addr}{cd:Value},a,∀(σ':St) (H':Hp) (i:?OE),a,∀{h':Heap}{Y:?hY}{T:?yH},a,∀(Pv:?t5)(h0:?NS),a,∀{items:?cC}(x:Ni h a ?j5),a,∀(hb:?P5),a,∀(hd:?a40 n),a,∀(hd:∀zs τ H,Pv n zs τ H->Q H),a,∀{cells:?h1}{x:Str},a,∀{tg elt iter:Expr}{ifs:?gZ},a,∀(hh:?RL),a,∀{X:Cx}{a b c:Expr}{ta tb tc:TE},a,∀{vl vu:Value}{lo hi:?bS},a,∀(D:ZipApart z TI TO i1 i2 a b),a,∀(hn:n=min ?c4 ?pJ),a,∀{X:Cx}{CX:UU}{k:Nat}{f C:Addr},a,∀(hm:?pZ),a,∀{x qual:Str}{st:Stmt}{f:Addr},a,@((?a).go i H/\∃N:?F,?eL/\∀x H',(?b).yld i H x H'->?fJ),@(?e ?k X.A ?a ?b ?m s),@(go (?a) rfl),@(Rl ?a g ?b te D Q τ H),@([?gL,?gX,"dict_itemiterator","dict_reverseitemiterator","odict_iterator","itertools.zip_longest","itertools.pairwise"].contains ?a),@(kU CX P w K mg ?aX N ?aY ?e2 f ?a A ?a6 s H E),@(λσ H Q=>?a σ H λx H1=>?b),@(Bn X Ae σ ?a ?b),@(?a Ae s1 σ H1 ?b I1 q1),@(?a Ae s σ H _ I ?b),@(?e ?a A ?b Q E s),@(X.s₀.heap.objs.size<=?a),@(qs4 (h₀:=X.base) ?wH ?a (Dz (ha pos Ae s σ H _ I h) λus s1 #[vs,H1,I1,r,q]=>#[I1.kIn,?_]) he hpl),@(?a->?b->Prop),@(?a (Dz (ha pos Ae s σ H _ I h) λus s1 #[vs,H1,I1,r1,q1]=>hc Ae s1 σ H1 vs us Q I1 r1 q1) he hpl),@(∀p,?aS->Q ?aW (upd H p ?a)),@((sc.names.map λ ?gR=>if (k==?lV&&wH.kind==?jN&&?mI n==?aZ) then ?CE else ?gR).lookup p.1=?a),@(?a (Dz (h pos Ae s σ H _ I hq) λus s1 #[xs,H1,I1,r,z,q]=>#[by rw[←r.length];exact z,?_])),@(qa6 (m:=Builtin.Tuple.tupleExact _) (qm1 (?a ?b) MG)),@(?a λ_ _ _ _ _ _ _ q=>?b q),@(sp (?l x::?gJ) (upd (upd ?a dx (.own x)) x (.ins C dx [])) (λv H2=>v=?u/\Q ?j8 H2) E),@(?bH (?cJ ?a m apos) ?b [] pos),@(upd H ?a ?b),@(Q (.bl ?a) H),@(Al3 ha hb I h λv u s2 x y H2 I2 rx ry q=>ho Ae s2 σ H2 x y v ?a Q I2 rx ry q),@((?a).stop i H/\?bT),@(λσ H R=>ta σ H λvs H1=>?a),@(X.env.scope.names.lookup x=?a),@(?q ((e::es).length+([]:?l3).length+(if ([]:?l3).isEmpty then 0 else ?a)<30)),@(qo7 ?a ?b7 ?b k ?hU fin),@(P9 X ?a (yK λi j=>.bl ?b)),@((items.toList.drop (?cS)).take (?gM-?a)),@(show ?a b=_ from h'),@(λx y H Q=>?a),@(EP X Ae σ Q ?a ?b),@(dQ I (A:=A.in1) (by show ?AP;omega) r r' rv cB (eqDs_ok ?a ds) ?tD),@(?jL (t':=s.toks) (o:=?a ?b) (?q2) ?a8 ?_),@(∀{binds:?jG}[?nN],(∀v,(x,v) ∉ binds)->?a ?cM binds m x=m x),@(?bH (?eT ?a p) ?b [] pos),@(show ?a from r),@(s.heap.objs.size<=?a),@(?xV (λx1 x2=>x1++x2) #v[] (?c2 ?a ?M)=(?c2 ?b its).flatten.toArray),@(?qE (t':=s.toks) ?a f0 f1 f3 f4 f5),@(?J0 p ?a ho hc hd (λh' c' kp e=>fin its r' hz h' c' kp e) ?n0),@(dQ I (A:=X.A.in1) (by ext nD) r r' rv cB (eqDs_ok ?a ds) ?tD),@(by subst hK;exact ?a ?b),@(Fm X (?a7 ?a) ?b),@(λ_ _ _ z=>by let ?a:=z;exact ?b),@(?eI ?a ?bL "__setattr__"=?c (?c (?a7 "object.__setattr__"))),@(PE X (?t7 ?a j pos) (tC ?b)),@(?w (qb5 ?a ?b) ?gV),@(?o0 pos f first (?gN pos ?a) ?qT),@(?a ?m2 ?b (kJ I (A:=X.A.in1) (by ext nD) hx rx r rv) (fin r rv)),@(λ_ _ _ H _ I h=>?a ?b),@(?hS f=?c #[oc,od,.func ?a,osl]),@(?a<=sizeLine),@(?a Pv h0 hl (λi x ys τ H e p=>hs i x ys τ H e p) hd),@(∀i σ H,?a->?bW->?b),@(λv s1 h1=>Dz h1 λitv s2 h2=>?a),@(Ic ?r5 (λz=>by simp at z) ?a),@(?e _ _ ?a _ _ s),@(?c { cls:=?aK,data:=?iT ?a }),@(#[u,rfl,HV (s:=?i6) e c d ?bN #[x,H,I1,ru,?a,st',?o6]]),@(?a (Cr I q (?cK not ?b))),@(λb o _ _ hc e _=>?a),@(s1.heap.objs.size+?a),@(?eI K ?bL ?a),@(PE X ?a ?b),@(Ge X sc N' ?a s₀ H₀ fp),@(Classical.propDecidable ?a),@(?iY (i:=i) (x:=?a (?b[i]' ?f2)) (by rw[qb0,hb];rfl)),@(s.heap.objs.size+?a),@(∀i ys τ H,?eR->?cI->?a),@(λ_ _ _ _ _ st h=>?a st h),@(?e6 ?a TI (?l i1) (?l i2)),@((?a (?f5)).take (?mU-?f5)),@(λAe s σ H Q I hw=>?a (h Ae s σ H Q I hw)),@(by cases op<;>first | rfl | exact ?w rfl ?a),@((ws.map tI).findIdx? (λe=>eqD e (tI f))=?a (?b)),@(λy H4=>?B0/\?y4/\N ?iE ?a (upd H4 D (?x ?iE))),@(by rw[I.ok.glob];exact I.mod.glob.keeps ?a),@(?a c o (I.cne x c e) hc nch ho (?cQ x c e)),@(NP X Ae ?a s'),@(qe2 (qb5 ?a ?b)),@(Un fs ex H ?a h ?b),@(SqL K H ?a ?b),@(Rep K H ?a ?b),@(?c { cls:=?c7,data:=?Y #v[?g ?a ?kF,u] }),@(?bC ?a=?c (?aF ?b)),@(?a { cls:=?c7,data:=?Y ?b }),@(?a ?a1 ?lG (by simpa[e1,e2]using hl) O9m),@(?a==NameKind.free),@(?a b o e n hb ?b),@(?a (NE:=?zF) O9m O9m O9m Pv h0 hl hs hd),@(∀i ys τ H,i<n->?cI->g (?kQ) τ H ?a),@(λi H=>∃xs x,?a/\?aL),@(xs.length+?a<=sizeLine),@(?d5 ?a=?n/\?d2),@((?a).length<=acc.length+?b),@(#[?h6,?PK,_,_,H1,rfl,?QF,?a a _,?AU,?gC,q]),@(?a (i:=i) (qg4.mp nd).2 (?pX) (?zE) hk),@(∀[?bA][?R] (n:Nat),?b6->?P (?a n) (?b n)),@(λb ps q=>#[#v[],by rw[Al ?a,q];simp]),@(ho Ae s2 σ H2 x y v u ?a I2 r1 r2 q2),@(PI X tg l (?a ?b tl)),@(?a _ _ (YN _ _ ?b) q),@(∀i x ys τ H,?aL->?cI->g x τ H ?a),@(λσ H Q=>t σ H λxs H1=>?a Q xs H1),@(λ_ s2=>YP X Ae σ r Y (T ?t6) ?a s2),@(qa6 (?a (qa6 ?b))),@(Xn P w K tg ?a [it] it ?b),@(PW X (?bZ .And ?a pos) ?b),@(H ?a=none),@(A.units+?a<cLine),@(?kH ?a z TI TO ?b),@(λi H=>∃xs,?a/\?oD),@(PW X (?bZ .Or ?a pos) ?b),@(P9 X (?aM .NotEq) ?a),@(?i #[?a,?eY,?b,?jC]),@(?S K H ?a ?b),@((?a==?b)=false),@(#[?l ?h6,upd H1 ?h6 ?a,?TC,rfl,q _ hf]),@(λ_ H Q=>Q ?a H),@((∃c d,?wI)/\?gP i1 a ?a/\?gP i2 b ?b),@((?o7:∀j,j<?a->∀i,i<j->?b) j hj i h),@(((∃xs,SqL K H1 a xs))->(R ?a H1)->?b),@(show s.heap.IsTuple ?a ?M from p),@(SqT K H ?a ?b),@(PG X (?pI es k pos) (A59 ?a n t)),@(P9 X ?jE (?a ?b)),@(P9 X (?aM .NotIn) (Ax1 ?a n ?cW)),@(Nat.lt_succ_self ?a),@(Bv P w K mg ?aX Eo ?a f fd ps sp),@(?lJ ws fam ?a ?b),@(?c { cls:=?b4,data:=?Y #v[] ?a }),@((∀p H',?c6->SqT K H' p ?a->?kT)->?b),@(#[x,H1,I1,rx,a,C,dx,fs,?a,ex,ea,c,?b,l,q]),@(#[oc,od,kV,doc,pm,an,Dr,ct,osl,rfl,?a,?b]),@(?a=s.heap.objs.size),@(?a<s.heap.objs.size),@(λi H x H'=>H'=H/\∀xs,?a->?aL),@(TI K H v ?a),@(Hk k (?o8 (?zY ?aY ?a ?s f Dr))),@(A.under (?a7 ?FD #[?t1::?a,kw])),@(?lM ?a e it ?b old),@(?bC ?a=?c (?a7 ?b)),@(∀x c,?dU->c≠?a),@(λxs H Q=>?a),@(qu1 (M7 ?a hg hm hv ?_ hn hdb)),@(by rw[hD];exact ?a),@(Un (?m4) ?a H H' ?t ?b),@(RcAt A s ?bF ?qR (eqD (?a) (?b es))),@(Aw ?a fam),@(?e ?k X.A ?a Q E s),@((bM cells l acc).lookup ?a=?bM),@((ER h H).get? b=?a),@((?oP (?wA ?a 0).toNat []).getD ?b 0),@(#[z,y,?a,r,ob,es,ep,?b,c]),@(#[(hs.2 p.1 ?a).trans e,n,ne,nf,d]),@(?a=xs.length),@(∀ys τ H,Pv ?a ys τ H->Q H),@(∀p,?PA->Q ?aW (upd H1 p ?a)),@(∀[?bA][?R] (i:Nat),?b6->?P ?a ?b),@(λacc C=>?KK ?k X.A ?m ?a ?b acc C),@(λσ H R=>tl σ H λx H1=>?a),@(λx lo hi H Q=>?a),@(show x=?a from hx),@(PT X (?nZ a [op] [b] pos) (?a ?b)),@(Fo e ?a (by intro z;cases z)),@(?a ?cM ?q6 m ?b=_),@(St->?ZX Hp (?a)),@(∀[?O] (D:Ends),?C->?O0->?ZL (?a st ?h) (SP X Ae D)),@(W.fnOf ?a2 ?aY params ?h5 ?e2 dV kV doc pm an Dr ?a),@(?C->?gE->?ZL ?a (?b X Ae σ Q)),@(Dz (?ZT hi ?a) (?a16 ?_)),@(?aT ?a ?h),@(λxs H Q=>∃i j,xs=?vY/\Q (?g ?a) H),@(PE X (?a05 o ?a) (lO C m sp dvs E ta ?b)),@((?a09 ?a)\/?b),@(λys hy=>by rw[?a hy hq];exact hx),@(λb u q n _=>by rw[Al ?a];exact n),@(?bH (?cJ ?a ?a2 apos) ?d6 [] cpos),@(?aS->g ?aW ?a (?a06 p (?N [?I,x])) ?b),@(?a=true),@(∀l,?oK->Q (?oR) (?a06 l ?a)),@(?a K x y H Q),@(λb o _ hb _ e n=>?a24 ?a ?G),@(by subst hK;exact(?a).imp ?GN),@(∀p ys,?rD->((?wG\/?BA))->?a->?b),@(λu s₂=>?e ?k X.A ?a ?b ?m s₂),@(SqL X.K H ?a ?b),@(?c (?fB (?i0) ?a)),@(λv s₁=>?e ?k X.A (?zA) (?a4T ?a ?b) ?m ?iA),@(?T (bM ?r0 ?a ?b))])
def O9m{p:Prop}(h:p:=by omega):p:=h
abbrev qa0:=@List.getElem?_eq_getElem
abbrev qa1:=@List.getD_eq_getElem?_getD
abbrev qa2:=@Nat.le_refl
abbrev qa3:=@List.getElem?_eq_some_iff
abbrev qa4:=@List.length_map
abbrev qa5:=@Nat.le_trans
abbrev qa6:=@PySem.wpAny_bind
abbrev qa7:=@PySem.Heap.get?_push_of_some
abbrev qa8:=@Option.some.inj
abbrev qa9:=@Nat.zero_le
abbrev qb0:=@List.getElem?_map
abbrev qb1:=@List.mem_of_getElem?
abbrev qb2:=@Int.natAbs_mul
abbrev qb3:=@List.mem_cons_self
abbrev qb4:=@List.map_append
abbrev qb5:=@Nat.lt_of_lt_of_le
abbrev qb6:=@List.mem_cons_of_mem
abbrev qb7:=@Bool.and_eq_true
abbrev qb8:=@PySem.PassesOwn.never
abbrev qb9:=@PySem.wpAny_pure
abbrev qc0:=@Nat.mul_le_mul_right
abbrev qc1:=@Nat.lt_of_le_of_lt
abbrev qc2:=@of_decide_eq_true
abbrev qc3:=@PySem.Heap.lt_size
abbrev qc4:=@PySem.Heap.get?_push_size
abbrev qc5:=@List.size_toArray
abbrev qc6:=@List.length_append
abbrev qc7:=@Int.natAbs_neg
abbrev qc8:=@List.map_cons
abbrev qc9:=@List.getElem?_append_left
abbrev qd0:=@List.mem_map
abbrev qd1:=@List.getElem?_append_right
abbrev qd2:=@List.take_length
abbrev qd3:=@List.all_eq_true
abbrev qd4:=@Int.mul_zero
abbrev qd5:=@List.length_take
abbrev qd6:=@List.length_cons
abbrev qd7:=@PySem.F.plainAttrs_list
abbrev qd8:=@Int.one_mul
abbrev qd9:=@List.mem_cons
abbrev qe0:=@Int.mul_assoc
abbrev qe1:=@Nat.pow_add
abbrev qe2:=@Nat.ne_of_lt
abbrev qe3:=@Bool.false_ne_true
abbrev qe4:=@List.getElem_mem
abbrev qe5:=@Nat.le_of_lt
abbrev qe6:=@Nat.pow_le_pow_right
abbrev qe7:=@List.take_succ
abbrev qe8:=@Int.mul_comm
abbrev qe9:=@List.mem_range
abbrev qf0:=@Nat.mul_le_mul_left
abbrev qf1:=@List.getElem?_of_mem
abbrev qf2:=@decide_eq_true
abbrev qf3:=@Int.natAbs_add_le
abbrev qf4:=@Nat.mul_le_mul
abbrev qf5:=@Nat.one_mul
abbrev qf6:=@Int.add_zero
abbrev qf7:=@Nat.add_mul
abbrev qf8:=@Int.zero_mul
abbrev qf9:=@Int.toNat_natCast
abbrev qg0:=@PySem.F.type_list_append
abbrev qg1:=@PySem.F.slot_list_append
abbrev qg2:=@PySem.boot_len
abbrev qg3:=@Int.fdiv_eq_ediv_of_nonneg
abbrev qg4:=@List.nodup_cons
abbrev qg5:=@List.mem_filter
abbrev qg6:=@List.mem_append_right
abbrev qg7:=@Decidable.byContradiction
abbrev qg8:=@Nat.pow_lt_pow_right
abbrev qg9:=@Nat.le_of_not_lt
abbrev qh0:=@Nat.le_add_right
abbrev qh1:=@PyProof.Rows.callWith_type1
abbrev qh2:=@Nat.pow_succ
abbrev qh3:=@Nat.lt_or_ge
abbrev qh4:=@List.getElem?_eq_none
abbrev qh5:=@List.getElem_of_mem
abbrev qh6:=@PySem.wpAny_field
abbrev qh7:=@Int.natAbs_ediv_le_natAbs
abbrev qh8:=@Nat.sub_self
abbrev qh9:=@Int.emod_lt_of_pos
abbrev qi0:=@List.length_filter_le
abbrev qi1:=@Nat.le_mul_of_pos_right
abbrev qi2:=@PySem.Heap.size_push
abbrev qi3:=@Option.map_eq_some_iff
abbrev qi4:=@List.length_set
abbrev qi5:=@PySem.wpAny_setField_rec
abbrev qi6:=@Int.zero_add
abbrev qi7:=@PySem.W.mg_none_of
abbrev qi8:=@Nat.le_antisymm
abbrev qi9:=@List.mem_singleton
abbrev qj0:=@Nat.succ_le_succ
abbrev qj1:=@Nat.lt_of_not_le
abbrev qj2:=@List.not_mem_nil
abbrev qj3:=@List.length_drop
abbrev qj4:=@List.length_eraseIdx_of_lt
abbrev qj5:=@List.take_of_length_le
abbrev qj6:=@List.replicate_succ
abbrev qj7:=@List.mem_map_of_mem
abbrev qj8:=@decide_eq_false
abbrev qj9:=@List.length_replicate
abbrev qk0:=@Int.mul_le_mul_of_nonneg_right
abbrev qk1:=@Int.emod_nonneg
abbrev qk2:=@PySem.wpAny_truthy_bool
abbrev qk3:=@Int.mul_ediv_cancel_left
abbrev qk4:=@List.sum_cons
abbrev qk5:=@List.map_map
abbrev qk6:=@Int.mul_nonneg
abbrev qk7:=@Nat.lt_trichotomy
abbrev qk8:=@beq_eq_false_iff_ne
abbrev qk9:=@List.range_succ
abbrev ql0:=@List.mem_append
abbrev ql1:=@PySem.wpAny_mono
abbrev ql2:=@Nat.mul_lt_mul''
abbrev ql3:=@Nat.one_le_two_pow
abbrev ql4:=@Int.add_assoc
abbrev ql5:=@PySem.wpAny_call_entry
abbrev ql6:=@List.mem_of_mem_take
abbrev ql7:=@List.getElem?_set_ne
abbrev ql8:=@List.flatten_cons
abbrev ql9:=@Nat.le_of_eq
abbrev qm0:=@Int.mul_one
abbrev qm1:=@PySem.wpAny_newObj_type
abbrev qm2:=@List.filter_cons
abbrev qm3:=@Int.mul_le_mul_of_nonneg_left
abbrev qm4:=@Nat.le_mul_of_pos_left
abbrev qm5:=@List.getElem?_take
abbrev qm6:=@Nat.ne_of_gt
abbrev qm7:=@List.length_nil
abbrev qm8:=@Bool.eq_iff_iff
abbrev qm9:=@PySem.wpAny_seqItems
abbrev qn0:=@List.take_add_one
abbrev qn1:=@List.foldl_append
abbrev qn2:=@List.any_cons
abbrev qn3:=@Int.le_of_dvd
abbrev qn4:=@PySem.wpAny_pyIter_tuple
abbrev qn5:=@List.mem_append_left
abbrev qn6:=@PySem.wpAny_passesOwn
abbrev qn7:=@List.pairwise_iff_getElem
abbrev qn8:=@List.mem_or_eq_of_mem_set
abbrev qn9:=@Int.natAbs_lt_natAbs_of_nonneg_of_lt
abbrev qo0:=@PySem.wpAny_holding
abbrev qo1:=@PySem.mem_of_lookup
abbrev qo2:=@List.map_congr_left
abbrev qo3:=@Int.neg_neg
abbrev qo4:=@Int.neg_mul
abbrev qo5:=@Int.add_mul
abbrev qo6:=@PySem.F.slot_tuple_iterator_next
abbrev qo7:=@PySem.W.kia_one
abbrev qo8:=@Nat.lt_irrefl
abbrev qo9:=@List.nil_append
abbrev qp0:=@List.map_take
abbrev qp1:=@List.find?_cons
abbrev qp2:=@List.filter_append
abbrev qp3:=@Int.eq_ofNat_of_zero_le
abbrev qp4:=@List.getElem?_set_self
abbrev qp5:=@decide_eq_true_eq
abbrev qp6:=@Nat.le_succ
abbrev qp7:=@List.length_range
abbrev qp8:=@List.getElem?_set
abbrev qp9:=@List.ext_getElem?
abbrev qq0:=@PySem.W.methodCall_KW
abbrev qq1:=@List.map_nil
abbrev qq2:=@List.length_singleton
abbrev qq3:=@PySem.Calls.spliced_cons
abbrev qq4:=@Nat.min_le_right
abbrev qq5:=@List.take_append_of_le_length
abbrev qq6:=@List.lookup_cons
abbrev qq7:=@List.any_eq_true
abbrev qq8:=@Nat.add_le_add_right
abbrev qq9:=@List.replicate_succ'
abbrev qr0:=@PySem.Calls.callWith_builtin
abbrev qr1:=@PySem.wpAny_pyIter_list
abbrev qr2:=@Nat.add_assoc
abbrev qr3:=@List.map_drop
abbrev qr4:=@Nat.two_pow_pos
abbrev qr5:=@Nat.lt_two_pow_self
abbrev qr6:=@List.of_mem_zip
abbrev qr7:=@List.foldl_cons
abbrev qr8:=@List.filter_sublist
abbrev qr9:=@Int.mul_eq_zero
abbrev qs0:=@PySem.F.slot_enumerate_next
abbrev qs1:=@Bool.or_eq_true
abbrev qs2:=@Nat.mul_lt_mul_of_pos_left
abbrev qs3:=@Nat.le_of_mul_le_mul_right
abbrev qs4:=@PySem.W.callWith_K
abbrev qs5:=@Nat.zero_add
abbrev qs6:=@Bool.false_eq_true
abbrev qs7:=@Nat.le_of_mul_le_mul_left
abbrev qs8:=@PySem.F.type_list_insert
abbrev qs9:=@PySem.F.slot_list_insert
abbrev qt0:=@PySem.F.args_tuple_add_2
abbrev qt1:=@List.pairwise_map
abbrev qt2:=@List.nodup_append
abbrev qt3:=@Int.not_lt
abbrev qt4:=@Int.dvd_mul_of_dvd_right
abbrev qt5:=@PySem.F.plainAttrs_dict
abbrev qt6:=@PySem.F.entry_tuple_add
abbrev qt7:=@List.getElem?_replicate
abbrev qt8:=@List.getElem?_cons_zero
abbrev qt9:=@List.filter_cons_of_pos
abbrev qu0:=@List.filter_cons_of_neg
abbrev qu1:=@PySem.wpAny_Call_Name_kw
abbrev qu2:=@Nat.succ_ne_self
abbrev qu3:=@List.Sublist.map
abbrev qu4:=@PySem.F.slot_tuple_add
abbrev qu5:=@Int.fmod_nonneg_of_pos
abbrev qu6:=@PySem.wpAny_pyIter_enum
abbrev qu7:=@PySem.wpAny_dictEntries
abbrev qu8:=@PySem.F.slot_dict_pop
abbrev qu9:=@PySem.F.slot_dict_get
abbrev qv0:=@Nat.min_self
abbrev qv1:=@Nat.lt_trans
abbrev qv2:=@List.sum_append
abbrev qv3:=@Int.natAbs_dvd_natAbs
abbrev qv4:=@Int.le_trans
abbrev qv5:=@PySem.W.mg_of
abbrev qv6:=@PySem.wpAny_pyIter_zip
abbrev qv7:=@PySem.wpAny_isInstance
abbrev qv8:=@List.nodup_nil
abbrev qv9:=@PySem.W.plainGet_of
abbrev qw0:=@PySem.F.slot_dict_itemiterator_iter
abbrev qw1:=@Nat.add_le_add_left
abbrev qw2:=@List.filterMap_cons
abbrev qw3:=@Int.le_refl
abbrev qw4:=@Array.length_toList
abbrev qw5:=@PySem.wpAny_notOrdered_dict
abbrev qw6:=@PySem.wpAny_execs_nil
abbrev qw7:=@List.getElem?_drop
abbrev qw8:=@List.findIdx?_cons
abbrev qw9:=@Int.fmod_lt_of_pos
abbrev qx0:=@Int.dvd_trans
abbrev qx1:=@PySem.F.slot_zip_next
abbrev qx2:=@PySem.wpAny_rule
abbrev qx3:=@beq_iff_eq
abbrev qx4:=@PyProof.Rows.slot_tuple_getitem
abbrev qx5:=@Nat.sub_le
abbrev qx6:=@List.append_assoc
abbrev qx7:=@PySem.Calls.evalArgs_plain
abbrev qx8:=@Nat.sub_zero
abbrev qx9:=@Nat.pow_zero
abbrev qy0:=@Nat.add_comm
open PySem in
noncomputable abbrev LLInt:=?r (?z)
open PySem in
noncomputable abbrev Bm:=?r (?R5)
open PySem in
noncomputable abbrev Td:=?jH (?mK)
open PySem in
noncomputable abbrev OAddr:=?bD ?g7
namespace L2
open PySem PySem.Spec PyProof.Rows
noncomputable abbrev Key:=Sum Int Str
abbrev cI:Key->?aE->?cP
 | ?j k,v=>Value.isInt k v
 | ?i7,v=>Value.isStrOf x v
abbrev Bo1(w:World):Key->Int
 | ?j k=>hashInt k
 | ?i7=>hashStr w x
def Dq:∀{k:Key}[?hO],cI k v=true->(∃i t,k=?rO i/\v=Value.int i t)\/(∃x t,k=?sT x/\v=Value.str x t)
 | ?p1,v,h=>by
   let ?iQ:=Value.isInt_shape (k:=i) (v:=v) h;exact ?j #[i,t,rfl,e]
 | ?i7,v,h=>by
   let ?iQ:=Value.isStrOf_shape (x:=x) (v:=v) h;exact ?i #[x,t,rfl,e]
def oN(i:Int)(t:Tok):cI (?p1) ?s2=true:=by simp[cI,Value.isInt]
def OM(x:Str)(t:Tok):cI (?i7) ?SQ=true:=by simp[cI,Value.isStrOf]
def Ag4(a b:Int):?q (?JP)=(a==b):=by
 by_cases e:a=b
 . subst e;simp
 . have h:¬?JP:=λq=>e (Sum.inl.inj q);rw[qj8 h];exact(qk8.mpr e).symm
def Ag1(a b:Str):?q (?VM)=?z9:=by
 by_cases e:a=b
 . subst e;simp
 . have h:¬?VM:=λq=>e (Sum.inr.inj q);rw[qj8 h,qj8 e]
def Ag3(a:Int)(b:Str):?q (?LO=?sT b)=false:=qj8 (λq=>nomatch q)
def Ag2(a:Str)(b:Int):?q (?HP=?rO b)=false:=qj8 (λq=>nomatch q)
abbrev mixKind[?E8]:PySem.KeyKind prog w Key where
 is:=cI
 hash:=Bo1 w
 inj:=λv a b ha hb=>by
  rcases Dq ha with⟨i,t,rfl,rfl⟩|⟨x,t,rfl,rfl⟩
  . ext Y8
    . injection e with e1 _;rw[e1]
    . exact ?qK
  . ext Y8
    . exact ?qK
    . injection e with e1 _;rw[e1]
 byValue:=λk v h=>by
  rcases Dq h with⟨i,t,rfl,rfl⟩|⟨x,t,rfl,rfl⟩<;>rfl
 pyHash:=λhv h=>by
  rcases Dq hv with⟨i,t,rfl,rfl⟩|⟨x,t,rfl,rfl⟩
  . exact wpAny_pyHash_int h
  . exact wpAny_pyHash_str h
 eqBool:=λhu hv h=>by
  rcases Dq hu with⟨i,t,rfl,rfl⟩|⟨x,t,rfl,rfl⟩
  . ext XY
    . rw[Ag4]at h;exact wpAny_eqBool_int h
    . rw[Ag3]at h;exact SeqAt.EqAt.int_str i t y u _ _ _ _ h
  . ext XY
    . rw[Ag2]at h;exact SeqAt.EqAt.str_int x t j u _ _ _ _ h
    . rw[Ag1]at h;exact wpAny_eqBool_str h
 «strs»:=λk x t v h=>by
  rcases Dq h with⟨i,u,rfl,e⟩|⟨y,u,rfl,e⟩
  . exact ?qK
  . injection e with e1 _;subst e1;cases v<;>rfl
def HD[?E8](i:Int)(t:Tok):?S2 (?p1) ?s2=true:=oN i t
def HC[?E8](x:Str)(t:Tok):?S2 (?i7) ?SQ=true:=OM x t
set_option genInjectivity true in
inductive V where
 | non | bl (b:Bool) | int (i:Int) | str (x:Str) | byt (b:?MR) | flt (b:UInt64) | ref [?bR] | ty (n:String)
 deriving DecidableEq
noncomputable abbrev rS[?bR]:?kZ:=?c ?bF
noncomputable abbrev iS(i:Int):?kZ:=?c (?I)
abbrev RelV:?ZX V ?aE
 | ?u,u=>?rX
 | ?bJ,u=>?sZ
 | ?I,u=>?UT
 | ?eM,u=>?VR
 | .byt b,u=>?KS
 | .flt b,u=>?GX
 | ?aD,u=>?n5
 | .ty n,u=>u=Value.type n
noncomputable abbrev Vals:?ZX ?o ?y:=?mS ?c3
def Vals.length[?bA][?R](r:?b6):xs.length=us.length:=Paired.length r
def Vals.get:∀[?bA][?R]{i:Nat}{x:V},?b6->?aL->∃u,us[i]?=?U/\?cB
 | _,_,_,_,?A,e=>?QU
 | _,_,0,_,?H r _,e=>by simp at e;subst e;exact ?GZ
 | _,_,i+1,x,?pQ,e=>by
   let#[u,h1,h2]:=Vals.get (i:=i) (x:=x) t (?qH);exact#[u,?pX,h2]
def Vals.set{x:V}[?aI](r:?cB):?a42 (xs.set i x) (us.set i u)
 | _,_,_,?A=>?A
 | _,_,0,?pQ=>?iB
 | _,_,i+1,?H q t=>?H q (Vals.set r i t)
def Vals.append:∀[?hH]{us ws:?y},?b6->?P ys ws->?P (xs++ys) (us++ws)
 | _,_,_,_,?A,s=>s
 | _,_,_,_,?iB,s=>?H r (?OQ t s)
def Vals.take:?a2D xs.take us.take
 | _,_,0,_=>?A
 | _,_,_+1,?A=>?A
 | _,_,n+1,?iB=>?H r (Vals.take n t)
def Vals.drop:?a2D ?v8 us.drop
 | _,_,0,r=>r
 | _,_,_+1,?A=>?A
 | _,_,n+1,?pQ=>Vals.drop n t
abbrev Oi:?ZX ?kZ ?mK
 | ?L,?U=>?d4
 | none,none=>True
 | _,_=>False
abbrev KV{κ:Type}:?r (κ × V)->?r (?ID)->Prop:=?mS λ(p:κ × V) (q:?ID)=>p.1=q.1/\?c3 p.2 q.2
abbrev kV:Key->V
 | ?p1=>?I
 | ?i7=>?eM
inductive HO where
 | lst [?a9]
 | tup [?a9]
 | dK (kvs:?r (Key × V)) | dT (kvs:?r (?ON))
 | set (S:?QY) (n:Nat)
 | ins (C dx:Addr) (fs:?dT)
 | own (x:Addr)
 | xd (fs:?dT)
 | met (f x:Addr)
 | rng (lo hi:Int)
 | frz (o:Obj) (u:HO)
 | tbl (ps:?cC)
 | ext (φ:?yH)
noncomputable abbrev Hp:=?g7->?CS
abbrev upd(H:Hp)[?bR](o:HO):Hp:=λb=>if b=a then ?n else H b
def Ab{H:Hp}[?aJ]{o:HO}:upd H a o a=?n:=by unfold upd;rw[?D rfl]
def Al{H:Hp}{a b:Addr}{o:HO}(h:b≠a):upd H a o b=H b:=by unfold upd;rw[?v h]
def Fo{H:Hp}{a b:Addr}{o u:HO}(h:?s7)(h':?vM)(d:o≠u):a≠b:=by
 intro e;subst e;rw[h]at h';exact d (qa8 h')
def Aq{H:Hp}{a b:Addr}{o:HO}(h:?s7)(h':?Z):a≠b:=by
 intro e;subst e;rw[h]at h';cases h'
abbrev Ni[?dK][?bR](items:?cC):Prop:=∃o,?pF/\?CW/\?B7/\∃n,o.data=?Y ?j5 n
def Ni.tup[?aQ][?aJ][?Z6]:?lL h a ?j5:=let #[o,e,c,_,d]:=x;?BH
def Ni.lt[?aQ][?aJ][?Z6]:?AG:=x.tup.lt
def Ni.new[?dK](items:?cC):Ni (?a21 h.push ?j5) ?UW ?j5:=?LM
section
variable[?fV]
abbrev ObjOk(H:Hp)[?dK][?bR]:HO->Prop
 | ?x xs=>?eV/\∃(its:?y) (n:Nat),?i3/\?bX=?y8
 | ?N xs=>?eV/\∃its:?y,?i3/\Ni h a ?M
 | .dK kvs=>?HU/\?PM/\∃vs,KV kvs vs/\h.DictOf (mixKind P w) a vs
 | .dT kvs=>?HU/\?PM/\∃xs:?r (?TP),
    ?mS (λ(p:?ON) (q:?TP)=>p.1=q.1/\H q.2.1=?c (?N (p.1.map kV))/\?c3 p.2 q.2.2) kvs xs ∧
    ∃o es ep,?pF/\o.ExactDict/\?MP/\es.toList=?B8 (entryOfKey (tupleKind (mixKind P w)))/\(?B8 (·.1)).Nodup
 | ?K4=>h.SetOf (intKind P w) a S n
 | ?zC=>?VA/\?RR/\dx≠a/\?bX=?c (?oM C dx) ∧
    ∃mA,?zQ/\(?wU)/\?B6 mA (?pA (·.1))
 | .own _=>?G9
 | .xd fs=>∃mA,h.Ns1 a mA/\?wU
 | .rng lo hi=>∃t u v,?bX=?c ?z5
 | ?MO=>?pF/\?c8 H h a u
 | .tbl ps=>?bX=?a19 ps
 | .met f x=>?bX=?c (?CB ?cA ?j8)
 | .ext φ=>φ h/\(?G9)/\∀h1 h2:Heap,φ h1->(∀o,?r6 a=?n->h2.get? a=?n)->φ h2
abbrev S9(H:Hp)[?dK]:Prop:=∀a o,?s7->?CL
universe e9
section
variable[?u4][?eF]{h h':Heap}[?aJ]{o:HO}
def ObjOk.lt(x:?CL):?AG:=by
 cases o with
 | lst xs=>let#[_,_,_,_,e]:=x;ext bB
 | tup xs=>let#[_,_,_,p]:=x;exact p.lt
 | dK kvs=>let ?FQ:=x;ext bB
 | dT kvs=>let ?FQ:=x;ext bB
 | set S n=>let#[o,_,_,_,e,_]:=x;ext bB
 | ins C dx fs=>let ?IM:=x;ext bB
 | own y=>let ?uT:=x;ext bB
 | xd fs=>let#[_,?IM,_]:=x;ext bB
 | rng lo hi=>let#[_,_,_,e]:=x;ext bB
 | frz ob u=>let#[e,_]:=x;ext bB
 | tbl ps=>exact qc3 (show ?bX=?c _ from x)
 | met f y=>exact qc3 (show ?bX=?c _ from x)
 | ext φ=>let#[_,?uT,_]:=x;ext bB
def Paired.mapP{α β:Type}{F G:?ZX α β}:∀{l₁:?hV}{l₂:?r β},?mS F l₁ l₂->(∀a b,F a b->G a b)->?mS G l₁ l₂
 | _,_,?A,_=>?A
 | _,_,?iB,f=>?H (f _ _ r) (?II t f)
def ObjOk.stay(x:?CL)(k:∀b u,(b=a\/H b=?qJ)->?vW)
 (ho:∀b,H b=?qJ->?jA=?qJ) (ht:?pS):?c8 P w H' h' a o:=by
 induction o with
 | lst xs=>let ?pT:=x;exact#[z,its,n,r,?c0]
 | tup xs=>let#[z,its,r,ob,e,c]:=x;exact#[z,its,r,ob,?c0,c]
 | dK kvs=>let(?a3X vs e):=x;exact(?a3X vs ?c0)
 | dT kvs =>
   let(?a3X xs e):=x;exact#[z,y,xs,?II r λp q z=>#[z.1,ht _ _ z.2.1,z.2.2],ob,es,ep,?c0,c]
 | set S n=>let#[ob,es,ep,t,e,c]:=x;exact#[ob,es,ep,t,?c0,c]
 | ins C dx fs =>
   let#[d,z,ne,e,mA,#[od,es,ep,e2,c],r]:=x;exact#[ho _ d,z,ne,?c0,mA,#[od,es,ep,k _ _ (?i d) e2,c],r]
 | own y=>let#[ob,e]:=x;exact#[ob,?c0]
 | xd fs=>let#[mA,#[od,es,ep,e,c],r]:=x;exact#[mA,#[od,es,ep,?c0,c],r]
 | rng lo hi=>let#[t,u,v,e]:=x;exact#[t,u,v,?c0]
 | frz ob u ih=>let#[e,q]:=x;exact#[?c0,ih q]
 | tbl ps =>
   have e:?bX=?a19 ps:=x;show ?gO a=?a19 ps;exact ?LR
 | met f y =>
   have e:?bX=?c (?CB ?cA (?l y)):=x;show ?gO a=?c (?CB ?cA (?l y));exact ?LR
 | ext φ=>let#[p,#[o,e],st]:=x;exact#[st _ _ p λo q=>k _ _ ?dZ q,#[o,?c0],st]
def S9.lt[?nS](e:?s7):?AG:=(x a o e).lt
def S9.fresh[?nS](e:?zG):?CG:=by
 cases q:H a with
 | none=>rfl
 | some u=>exact ?a0Y (x.lt q) e
def S9.kept[?nS][?tK]:S9 P w H h':=λa o e =>
 (x a o e).stay (λb u _ q=>?r9) (λ_ q=>q) ?mV
def S9.laid[?nS][?tK](hp:?zG)(new:?c8 P w ?mM h' a o):S9 P w ?mM h':=λb u e=>by
 have hn:=x.fresh hp;by_cases hb:b=a
 . subst hb;rw[Ab]at e;cases e;exact new
 . rw[Al hb]at e;exact(x b u e).stay (λc v _ q=>k c v q) (λc q=>?o1) λc xs q=>?o1
universe e9
abbrev Rd(H:Hp)[?bR](u:HO):Prop:=H a=?U\/∃o,H a=?vJ
def Rd.ok[?u4]{H:Hp}[?aQ][?aJ]{u:HO}(r:Rd H a u)[?nS]:?c8 P w H h a u:=by
 rcases r with r|⟨o,r⟩
 . exact x a u r
 . let#[_,q]:=x a _ r;exact q
abbrev Mut:?CS->Prop
 | ?c (?qX)=>True
 | ?c (.dK _)=>True
 | ?c (.dT _)=>True
 | ?c (.set _ _)=>True
 | ?c (.ins _ _ _)=>True
 | ?c (.ext _)=>True
 | _=>False
section
variable[?u4]{H:Hp}{h h':Heap}{x e:Addr}{o':HO}
def S9.write(ok:?xR)[?WV]
 (new:?c8 P w (?a06 x o') h' x o'):S9 P w (?a06 x o') h':=λb u q=>by
 have Ay8:∀c y,H c=?c (.own y)->c≠x:=λc y r z=>?W8
 have Bl3:∀c xs,H c=?rP->c≠x:=λc xs r z=>?W8
 by_cases hb:b=x
 . subst hb;rw[Ab]at q;cases q;exact new
 . rw[Al hb]at q;by_cases hbe:b=e
   . have q':H b=?c (.own x):=by
      rcases he with z | z
      . exact ?w (hbe.trans z) hb
      . rw[hbe];exact z
     rw[q]at q';cases q';let#[v,hv]:=heo;exact#[v,by rw[hbe];exact hv]
   . apply(ok b u q).stay (λc v hc r=>k c v ?_ r) (λc r=>by rw[Al (Ay8 c b r)];exact r) λc xs r=>by rw[Al (Bl3 c xs r)];exact r
     rcases hc with rfl | hc
     . exact hbe
     . rintro rfl;rcases he with z | z
       . exact Ay8 c b hc z
       . rw[hc]at z;cases z;exact hb rfl
universe e9
structure Un(fs ex:?aV)(H H':Hp)(h h':Heap):Prop where
 keep:∀b o,?dX->?Z->b ∉ fs->?kM->?sC
 slot:∀b o,?dX->?Z->b∈fs->?kM->?UA
 free:∀b o,?dX->?Z->?kM->?pB
 there:∀b o,?dX->?kM->?PR
 tups:?pS
 frzs:?v2
 tbls:?S0
section
variable{fs fs' ex ex':?aV}{H H1 H2:Hp}{h h1 h2 h':Heap}{a x e:Addr}{o:HO}
def Un.any(u:?a1W H1 h1){b:Addr}{ob:Obj}(q:?pD=?c ob)(n:?Z)(hx:?kM):∃sl,?r6 b=?c { ob with slots:=sl }:=by
 by_cases hb:b∈fs
 . exact u.slot b ob q n hb hx
 . exact#[?NK,?B9 b ob q n hb hx]
def Un.kept[?tK]:?a1W H h' :=
 #[λb ob q _ _ _=>?wD,λb ob q _ _ _=>#[?NK,?wD],λ_ _ _ n _=>n,λb ob q _=>#[ob,?wD],?mV,λ_ _ _ q=>q,λ_ ps q=>#[#v[],?vI]]
def Un.refl:?a1W H h:=?C9 ?mV
def Un.laid[?tK](hp:?zG)(hn:?CG):?a1W ?mM h' where
 keep:=λb u q _ _ _=>?r9
 slot:=λb u q _ _ _=>#[u.slots,?r9]
 free:=?a4K (?a1V (qc3 q) hp)
 there:=λb u q _=>#[u,?r9]
 tups:=λb xs q=>?o1
 frzs:=λb u xs q=>?o1
 tbls:=?a2E (Aq q hn)
def Un.write[?WV]:Un fs ex H (?a06 x o) h h':=by
 have hx:∀b,?Z->b≠x:=λb n z=>by subst z;rw[n]at mu;exact mu
 have hb:∀b,?Z->?rY:=λb n z=>by
  subst z;rcases he with r | r
  . exact hx b n r
  . rw[n]at r;cases r
 have hm:∀b u,?vM->¬Mut (?U)->b≠x:=λb u q nm z=>by subst z;rw[q]at mu;exact nm mu
 apply#[λb u q n _ _=>?GK,λb u q n _ _=>#[u.slots,?GK],?a4K (hx b n),λb u q _=>?_,
  λb xs q=>?OJ,λb u xs q=>?OJ,?a2E (hm b _ q λz=>z)]
 by_cases hbe:b=e
 . subst hbe;exact heo
 . exact#[u,k b u hbe q]
universe e9
abbrev trk[?dK](H:Hp):?aV:=(?eS ?UW).filter λa=>(H a).isSome
abbrev ER[?dK](H:Hp):Heap:=PySem.W.hideAll h (trk h H)
def OT[?dK](H:Hp):(ER h H).objs.size=h.objs.size:=PySem.W.hideAll_size _ _
def tL[?aQ]{H:Hp}[?kA](e:?dX)(n:?Z):?a3V ?n :=
 PySem.W.hideAll_get _ e λhm=>by
  have q:(H b).isSome=true:=(qg5.mp hm).2;rw[n]at q;simp at q
def WL[?aQ]{H:Hp}[?kA](e:?a3V ?n):?dX/\?Z:=by
 have e':h.get? b=some o:=PySem.W.of_hideAll (trk h H) e;apply#[e',?_];cases q:H b with
 | none=>rfl
 | some x =>
   have hm:b∈trk h H:=qg5.mpr #[qe9.mpr (qc3 e'),by simp[q]];have z:?a3V none:=PySem.W.hideAll_none (trk h H) hm;rw[z]at e;cases e
structure Mod[?d][?nE]:Prop where
 kin:?VQ
 glob:?L5
 blt:∃mb,base.Ns ?MS mb/\?IH
 nolimit:base.NoLimit
structure Cx where
 prog:Program
 w:World
 K:PySem.W.Frag
 mg:?eX
 base:Heap
 A:Around
 N:?J
 s₀:Shared
 H₀:Hp
 env:Env
 outer:?cO
 stack:?cO
 ex:?aV
 fn:Str->?cP
 calm:Bool
 pn:Bm
 xe:?h2
abbrev QG(l:?cO):?aV:=l.filterMap (·.frame)
noncomputable abbrev Cx.fs(X:Cx):?aV:=QG ?rK
abbrev Vis(sc:Scope)(x:Str):Prop:=?l2 x=?dW\/?vZ\/?l2 x=?cZ
abbrev Loc(sc:Scope)(x:Str):Prop:=?GF
abbrev B18(env:Env)[?dK](m:?eX)(x:Str)[?eE]:Prop :=
 (?sW x=?dW/\m x=?U)\/((?sW x=?aZ\/?sW x=?cZ)/\∃c,?zB x=?bM/\h.IsCell c (?U))
structure Cx.Ok(X:Cx):Prop where
 mod:?FZ
 kind:X.env.scope.kind=?jN
 glob:X.env.globals=mainGlobals
 blt:X.env.builtins=builtinsNs
 above:?ZV X.env.locals
 inj:∀x y c,?dU->?sU y=?bM->x=y
 has:∀x,(?JR)->∃c,?dU
 cab:∀x c,?zN->?dU->?ZV c
 hd:?rC->?V6
 frames:X.A.frames=?c ?gI
 stk:X.stack=X.outer\/(X.stack=X.env::X.outer/\X.env.frame=?c ?q1)
 exf:∀b∈X.ex,?jF/\?TD
 bs:∀b o,?kJ->?BQ/\?SB
 bsz:X.base.objs.size<=X.s₀.heap.objs.size
 noex:∀b o,?kJ->?H7
 exfs:∀b∈X.ex,?o5
 funs:?FR ?dM ?rK
 frf:∀b∈X.fs,?SB
structure Bn[?cG](σ:?y7)(H:Hp)[?dH]:Prop where
 ok:X.Ok
 os:s.os=X.s₀.os
 bare:?KA
 base:Un X.fs X.ex X.H₀ H X.s₀.heap ?t
 loc:∃m,?LS/\∀(i:Nat) (x:Str) (v:V),?iI->?SW->?q5->∃u,?d4/\B18 ?h ?t m x u
 cell:∀x c,?dU->∃v,?r3 c v
 free:?a2O ?q1
 freeC:∀x c,?dU->?a2O c
 pin:∀p∈?zI,?TF
 hok:S9 ?aN X.w H ?t
 len:σ.length=X.N.length
section
variable[?uI]{σ:?y7}[?eF][?b1]{h':Heap}
def Cx.Ok.nofr(ok:X.Ok)[?kA](e:?kJ):?o5:=λhb=>by
 have:=(ok.funs.mem hb).1;rw[e]at this;cases this
def Bn.bs[?f]:∀b o,?kJ->?SC:=λb o e =>
 #[?pE b o (?rI).1 (?rI).2 (I.ok.nofr e) (?AC b o e),?iG b o (?rI).1 (?rI).2 (?AC b o e)]
def Bn.bk[?f]:∀b o,?kJ->?cU:=λb o e=>(I.bs b o e).1
def Bn.mod[?f]:?FZ:=I.ok.mod
def Bn.kIn[?f]:X.K.In ?t:=I.ok.mod.kin.keeps I.bk
def Bn.lt[?f]:?a3F X.env.locals:=let #[_,hn,_]:=I.loc;hn.lt
def Bn.sz[?f]:?ZV s.heap.objs.size:=qa5 ?o9 (qe5 I.lt)
def Bn.nofs[?f][?aJ](h:?VD):a ∉ X.fs:=λhb=>by
 let ?G0:=I.ok.funs.mem hb;exact ?a0Y (qc3 ho) (qa5 I.sz h)
def Bn.cne[?f]:?a3M X.env.locals:=λx c e z=>by
 let ?QT:=?pL;let#[m,#[o',es,ep,ho',hd',_],_]:=I.loc;rw[z,ho']at ho;cases ho;rw[hd']at hd;cases hd
def Bn.funs[?f]:?s9 ?dM ?rK:=by
 have all:∀(l:?cO),(∀b∈QG l,?OG)->?FR ?dM l->?s9 ?dM l:=by
  intro l
  induction l with
  | nil=>intro _ _;trivial
  | cons env r ih =>
    intro hs hl;let#[hk,#[L,o,hf,hn,ho,hd],hr]:=hl;have hL:L∈X.fs:=hs L (by unfold QG;rw[qw2,hf];exact qb3);let#[sl,e]:=?PH L o ho (?TU L hL) hL λz=>?OI L z hL;exact#[hk,#[L,_,hf,hn,e,hd],ih (λb hb=>hs b (by unfold QG;rw[qw2,hf];exact ?RD)) hr]
 exact all ?rK (λ_ hb=>hb) I.ok.funs
def Bn.stack[?f]:?s9 ?dM ?gI:=by
 rcases I.ok.stk with e|⟨e,hf⟩
 . rw[e];exact I.funs
 . rw[e];let#[m,hn,_]:=I.loc;apply ?H (by rw[I.ok.kind];decide) hf hn ?_ I.funs;exact Heap.get?_none_of_le (qa5 ?BS ?o9)
def Bn.stkSub[?f]:∀b∈?m4,b∈X.env.locals::X.fs:=λb hb=>by
 rcases I.ok.stk with e|⟨e,hf⟩
 . rw[e]at hb;exact ?RD
 . rw[e]at hb;unfold QG at hb;rw[qw2,hf]at hb;exact hb
def Bn.stkFree[?f]:∀b∈?m4,?Z:=λb hb=>by
 rcases ?eN (?G4 b hb) with e | hb
 . rw[e];exact I.free
 . let ?G0:=I.ok.funs.mem hb;exact ?iG b o ho (?TU b hb) λz=>?OI b z hb
def Bn.step[?YI][?f]
 [?D4]
 (keep:∀b o,?jF->?o5->?mZ->?cU->?Z->?sC)
 (slot:∀b o,?jF->?OG->?mZ->?cU->?Z->?UA) (free:∀b o,?mZ->?cU->?Z->?pB)
 (there:∀b o,?mZ->?cU->?PR)
 (tups:?pS) (frzs:?v2) (tbls:?S0)
 (ns:∀m,?LS->h'.Ns ?q1 m) [?E5] (hg:?rG g') :
 ?EX:=by
 have neL:∀b o,?BQ->?jF:=λb o e=>?a1V ?dP ?o9
 have neC:∀b o,?BQ->?H7->?mZ:=λb o e hx hb=>by
  rcases (hch b hb).1 with z | z
  . exact hx z
  . exact ?a0Y ?dP z
 have cellK:∀x c,?dU->∀v,?r3 c v->h'.IsCell c v:=λx c e v ?y0=>by
  have nch:c ∉ ch:=?H1;by_cases hc:c∈X.fs
  . let#[sl,q]:=?a1T slot;exact#[_,q,hd]
  . exact#[o,?a1T keep,hd]
 apply#[I.ok,?iS,hg,#[?rV,?rV,λb o e n hx=>?_,?UQ,λb xs e=>tups b xs (?V5 b xs e),λb o xs e=>frzs b o xs (?LC b o xs e),λb ps e=>?_],?_,?HH,?_,?HH,?uW,hok,?pW]
 . exact keep b o (neL b o e) hb ?pM (?a24 ?pE hx) (?iG b o e n hx)
 . ext DN;let ?TJ:=slot b _ (neL b o e) hb ?pM e1 (?iG b o e n hx);exact ?TJ
 . ext tL;exact free b o' ?pM e1 (?iG b o e n hx)
 . ext tL;exact there b o' ?pM e1
 . let#[m1,e1]:=?KB b ps e;let#[m2,e2]:=tbls b _ e1;exact#[m1++m2,by rw[e2,Array.append_assoc]]
 . let ?AZ:=I.loc;apply#[m,ns m hn,?EY];let ?z6:=hl i x v e1 e2 e3;apply ?LF;rcases l with l|⟨k,c,e,z⟩
   . exact ?j l
   . exact ?i #[k,c,e,cellK x c e _ z]
 . let ?BP:=?pL;exact#[v,cellK x c e v z]
 . let#[m,#[o,_,_,ho,_],_]:=I.loc;exact free _ o (?OX) ho ?dL
 . let ?QT:=?pL;exact free c o (?H1) ho (?cQ x c e)
 . ext DZ;have nch:p.1 ∉ ch:=λz=>(hch p.1 z).2.2.2 p hp rfl;exact#[keep p.1 p.2 ne nf nch e n,free p.1 p.2 nch e n,ne,nf,d]
def Bn.un[?eH][?f](u:Un X.fs [] H H' ?t h')[?E5]:?ZR H' ?kO:=by
 let ?JH:=?w0;let ?GU:=u.any ho ?dL ?G
 exact ?sF (g':=s.gens) (d':=s.drawn) (ch:=[]) (λ_ z=>?sR) (?a4Q ?B9) (?a4Q u.slot) (λb o _ e n=>u.free b o e n ?G) (λb o _ e=>u.there b o e ?G) u.tups u.frzs u.tbls (λm' hm=>by
  ext XA) hok ?bY
def Bn.call[?YI][?f](u:?a3Q ch h')[?E5](hg:?rG g')
 [?D4] :
 ?EX:=by
 let ?JH:=?w0;let ?GU:=u.any ho ?dL ?OX
 exact ?sF (ch:=ch) hch (λb o hL hb hc e n=>?B9 b o e n (λz=>(?w9).elim hL hb) hc) (λb o _ _ hc e n=>u.any e n hc) (λb o hc e n=>u.free b o e n hc) (λb o hc e=>u.there b o e hc) u.tups u.frzs u.tbls (λm' hm=>by
  ext XA) hok hg
def Bn.turned[?eH]{it:Addr}[?f](k:∀b o,?QC)(hn:?a2O it)(hL:it≠X.env.locals)
 (h1:it∈X.ex\/?ZV it) (h2:?a3M it) (h3:∀p∈?zI,p.1≠it):?BX:=by
 have nit:∀b u,?vM->b≠it:=λb u e z=>by rw[z,hn]at e;cases e
 apply ?sF (g':=s.gens) (d':=s.drawn) (ch:=[it]) (?gC) (?a1C ?BB) (?a1C #[?AW,?BB]) (λ_ _ _ _ n=>n)
  (λb o hc e=>#[o,?BB]) (λ_ _ e=>e) (λ_ _ _ e=>e) (λb ps e=>#[#v[],by rw[e];simp]) (λm hm=>?_) (λb u e=>?_) ?bY
 . ext tQ
   subst e;exact#[h1,hL,h2,h3]
 . let ?L7:=hm;exact#[o,es,ep,k _ o (?n1 hL) ho,r]
 . apply ?IA (λc v hc q=>k c v ?_ q) (λ_ q=>q) ?mV;rcases hc with z | z
   . rw[z];exact nit b u e
   . exact nit c _ z
def Bn.tok[?f](t:Nat):Bn X Ae σ H { s with toks:=t }:=I.un (h':=s.heap) (t':=t) Un.refl ?b8
def Bn.kept[?eH][?f][?YU]:?BX:=I.un (?C9 k) (I.hok.kept k)
def Bn.laid[?aJ]{o:HO}[?eH][?f][?YU](hp:?VD)(new:?c8 ?aN X.w ?mM h' a o) :
 ?ZR ?mM ?kO:=I.un (Un.laid k hp (?jD hp)) (?MV k hp new)
def Bn.write{x e:Addr}{o:HO}[?eH][?f](mu:?JE)(he:?GT)(k:∀b u,?rY->?NV)(heo:?RB)
 (new:?c8 ?aN X.w (?a06 x o) h' x o):?ZR (upd H x o) ?kO:=I.un (Un.write mu he k heo) (I.hok.write mu he k heo new)
def Bn.pins_of{YL:Bm}[?f](h:∀p∈YL,?TF):Bn X YL σ H s :=
 #[I.ok,?iS,?bY,?xM,?qS,?f7,?dL,?cQ,λp hp=>?TX (λz=>?iC p (qn5 _ z)) (h p),?b8,?pW]
def GY{N:?J}(hN:N.Nodup){i j:Nat}{x:Str}(a:N[i]?=?cX)(b:N[j]?=?cX):i=j:=by
 let#[h1,e1]:=?f9 a;let#[h2,e2]:=?f9 b;exact(List.getElem_inj hN).mp (e1.trans e2.symm)
def bV{M:Model}[?E][?a3][?fY]{v:V}[?aI][?nL][?f][?tJ][?g0]
 (h:∀s',?UU->(∃a,?n6 a ?t ?fH/\(a=X.env.locals\/?FG))->?y5) [?h7]:?J8:=by
 let ?AZ:=?w0;have hcls:(X.env.scope.kind==.class || (X.env.scope.kind==.module&&X.env.locals != X.env.globals))=false:=by rw[I.ok.kind];rfl
 have hiσ:i<σ.length:=by rw[I.len];exact ?lF
 have cne:=I.cne
 have tracked:∀[?aJ]{h':Heap},(∃o,?aU a=?n/\?CG)->?n6 a ?t h'->S9 ?aN X.w H h':=λ{a h'} ha hs b ob e=>by
  let#[_,_,hfree]:=ha;apply(?b8 b ob e).stay (λc w' hc q=>(hs.2 c ?_).trans q) (λ_ q=>q) ?mV;rintro rfl;rcases hc with rfl | hc
  . rw[hfree]at e;cases e
  . rw[hfree]at hc;cases hc
 rcases hx with hk | hk
 . apply wpAny_storeName_local hk hn (λh' hn' hs=>?_) hcls;let#[oL,_,_,hoL,_]:=id hn;apply h _ #[I.ok,?iS,?bY,?NP,#[_,hn',?NW],λy c e=>?_,?dL,?cQ,?uW,tracked #[oL,hoL,?dL] hs,?F9] #[_,hs,?hW]
   . exact ?uO (?a24 ?pE hx)
   . ext DN;exact#[sl,?uO e1]
   . ext tL;exact#[o',?uO e1]
   . by_cases hj:j=i
     . ext XP;exact#[u,r,?j #[hk,?a0]]
     . ext X7;rcases q with⟨k,e⟩|⟨k,c,e,z⟩
       . apply ?j #[k,?_];have:y≠x:=λe=>hj (GY hN e1 (e▸hi));simp[this,e]
       . exact ?i #[k,c,e,?S4]
   . let#[w',z]:=?f7 y c e;exact#[w',?S4]
   . ext DZ;exact(?a3Y ne)
 . have hfn:?zN:=by
    rcases hf with z | z
    . exact z
    . rw[z]at hk;cases hk
   let#[c,hc]:=I.ok.has x (?j hk);let#[w',z]:=?f7 x c hc;apply wpAny_storeName_cell ?jI hk hc z (λh' hc' hs=>?_);let#[oc,hoc,Bq5]:=id z;apply h ?i6 #[I.ok,?iS,?bY,?NP,#[m,?NU hs (?n1 (cne x c hc)),?NW],λy c' e=>?_,?dL,?cQ,?uW,tracked #[oc,hoc,?cQ x c hc] hs,?F9] #[c,hs,?i hc]
   . exact ?yI (?a24 ?pE hx)
   . ext DN;exact#[sl,?yI e1]
   . ext tL;exact#[o',?yI e1]
   . by_cases hj:j=i
     . ext XP;exact#[u,r,?i #[?j hk,c,hc,hc']]
     . ext X7;rcases q with q|⟨k,c',e,z'⟩
       . exact ?j q
       . apply ?i #[k,c',e,z'.sameBut hs ?_];rintro rfl;exact hj (GY hN e1 (?T1 _ _ _ e hc▸hi))
   . by_cases hcc:c'=c
     . subst hcc;exact#[_,hc']
     . let#[w2,z2]:=?f7 y c' e;exact#[w2,z2.sameBut hs hcc]
   . ext DZ;apply(?a3Y ?_);intro q;rw[q,hoc]at e;have q':oc=p.2:=qa8 e;exact d w' (by rw[←q'];exact Bq5)
def FY{M:Model}[?E][?a3][?fY]{v:V}[?aI][?nL][?f][?tJ][?g0]
 (h:∀s',?UU->?y5) [?h7]:?J8 :=
 bV I hN hi hx r (λs' I' _=>h s' I') hf
def Bn.call'{s':Shared}{ch:?aV}[?f](ho:?yO)(u:?a3Q ch ?fH)(hok:?N8)(hg:?qA)
 [?D4]:?tG:=by
 let#[h',g',d',t',o']:=s';have e:o'=s.os:=ho;subst e;exact I.call (g':=g') (t':=t') (d':=d') u hok hg hch
universe e9
noncomputable abbrev XK:=?aE->OAddr->?aB
noncomputable abbrev St:=?y7
noncomputable abbrev VK:=?hY
noncomputable abbrev TE:=St->?tA
noncomputable abbrev TT:=?a4A ?R4
noncomputable abbrev TA:=?a4A ?CK
structure Ends where
 nx:?F
 rt:VK
 bk:?F:=?g8
 ct:?F:=?g8
noncomputable abbrev TS:=Ends->?F
inductive EP[?cG](σ:St)(Q:VK)[?eE][?dG]:Prop
 | mk (v:V) [?tW] [?g0] (q:?n2):?H9
inductive TP[?cG](σ:St)[?k6](b:Bool)[?dG]:Prop
 | mk [?tW] (q:Q b H'):TP X Ae σ Q b s'
inductive AP[?cG](σ:St)(Q:?CK)[?dE][?dG]:Prop
 | mk [?eB] [?tW] [?uF] (q:Q vs H'):AP X Ae σ Q us s'
inductive NP[?cG](N:?F)[?dG]:Prop
 | mk [?Z3] (q:?rM):?a1U N
inductive HP[?cG](σ:St)(Q:?aB)[?dG]:Prop
 | mk [?tW] (q:Q H'):?KN
inductive YP[?cG](σ:St)[?eE](Y:?hY)(T:Prop)[?uC](s2:Shared):Prop
 | mk (x:V) (H':Hp) (i:?LP) (r:?cB) (y:Y x H') (t:T) (f:?GM):YP X Ae σ u Y T fp s2
inductive RP[?cG](Q:VK)[?eE][?dG]:Prop
 | mk (v:V) [?Z3] [?g0] (q:?n2):RP X Ae Q u s'
abbrev SP[?cG](D:Ends)(f:Flow)[?dG]:Prop :=
 match f with
 | .next=>?a1U ?iU
 | .brk=>?a1U D.bk
 | .cont=>?a1U D.ct
 | .ret u=>RP X Ae D.rt u s'
abbrev PE(X:Cx)(e:Expr)(t:TE):Prop :=
 ∀[?O] (Q:VK),?C->?gE->?ZL (?jK) ?b3
abbrev PT(X:Cx)(e:Expr)(t:TT):Prop :=
 ∀[?O] [?k6],?a4D (?z2 e ?h (?jK)) TP
abbrev PW(X:Cx)(e:Expr)(t:TT):Prop :=
 ∀(whole:Sem ?aE) [?O] [?k6],?a4D (?TW) TP
def PW.pt{X:Cx}{e:Expr}{t:TT}(h:PW X e t):PT X e t:=h _
abbrev PA(X:Cx)(es:?gZ)(t:TA):Prop :=
 ∀(pos:Pos) [?O] (Q:?CK),?a4D (spliced (?yE)) AP
abbrev PS(X:Cx)(st:Stmt)(t:TS):Prop :=
 ?a4B exec
abbrev MU(X:Cx)(st:?fA)(t:TS):Prop :=
 ?a4B execs
def Dz[?hP]{t:Sem α}{Q Q':α->?fK}{M:Model}[?E][?a3][?b1](h:?ZU M t)(hQ:∀a s,Q a s->Q' a s):?e M A t Q' E s:=ql1 h hQ λ_ _ x=>x
section
variable{X:Cx}
inductive ZJ(i:Nat)(σ:St)[?b9]:Prop
 | mk:∀v,(?SW)->(Q v H)->?GL
abbrev At6(i:Nat):TE:=λσ H Q=>?GL
abbrev tC(v:V):TE:=?a2Y v
def Ac5[?fY][?a4](hN:?iI)(hv:?q5)[?jU][?YT]:?F0:=by
 ext V;let#[v,e,h]:=h;let ?AZ:=I.loc;let ?z6:=hl i x v hN e hv;have fin:?a0I u s:=?y9
 rcases l with⟨hk,hm⟩|⟨hk,c,hc,hcell⟩
 . exact ?xW (wpAny_loadName_local ?jI hk hn hm fin) hd
 . rcases hk with hk | hk
   . exact ?xW (wpAny_loadName_cell ?jI hk hc hcell fin) hd
   . exact ?xW (wpAny_loadName_free ?jI hk hc hcell fin hcd) hd
def Ak{i j pos}:?a0X (?I) (?I):=?a11 wpAny_Constant_int #[?I,H,?gY,?bV,h]
def Fn{b j pos}:?a0X (?bU b) (?bJ):=?a11 Constant_bool #[?bJ,H,I,rfl,h]
def JK{j pos}:?a0X ?aK ?u:=?a11 Constant_none #[?u,H,I,rfl,h]
def O9{x j pos}:?a0X (?eM) (?eM):=?a11 Calls.Constant_str #[?eM,H,?gY,?bV,h]
abbrev Gl(X:Cx)(x:Str):Prop:=?lX x=?c .globalImplicit
def Y7[?a3][?nG]{x:Str}[?aI][?a4][?dD][?f][?nY](hm:?lS=?U)(h:Q u s)
 [?jU]:?UP :=
 ?QX ?jI hg (Calls.loadGlobal_global (?a1S I.bk) hm h) hd
def M7[?a3][?nG]{x:Str}[?aI][?a4][?dD][?f][?YF](h:Q u s)
 [?tU] [?jU]:?UP:=by
 let#[mb,h1,h2]:=I.mod.blt;exact ?QX ?jI hg (Calls.loadGlobal_builtin (?a1S I.bk) hm (by rw[I.ok.blt];exact h1.keeps I.bk) ((h2 x hn).trans hv) h) hd
def Ku{x:Str}{v:V}[?aI][?a4][?nY](hm:?lS=?U)[?g0][?jU]:?OH :=
 λ_ _ _ H _ I h=>Y7 I hg hm ?y9 hd
def Fz{x:Str}{v:V}[?aI][?a4][?YF][?g0][?tU][?jU]:?OH :=
 λ_ _ _ H _ I h=>M7 I hg hm hv ?y9 hn hd
variable[?EB][?a4]
abbrev PC(X:Cx)(op:CmpOp)(a b:Expr)(t:TE):Prop :=
 ∀[?O] (Q:VK),?C->?gE →
   ?ZL (?AO) (?a4W (?aM op v u) ?b3)
def rZ(b:Expr){op:CmpOp}(h:?SL)(h2:?LK):?pZ:=by
 ext X5
 ext X1
 cases b<;>simp[behindInMarks,e1,e2]
inductive ItB[?k6](x:V)(H1:Hp):Prop
 | mk:∀c,?oH->(Q c H1)->?IW
abbrev tB(t:TE):TT:=?ZQ t ?IW
def C5{e:Expr}{t:TE}(h:?a1F e t)(he:∀whole,?TW=(do let v ←whole;?vF e.pos;?kX [v] (truthy v)):=by intro _;rfl):PT X e (tB t):=by
 intro Ae s σ H Q I hw;apply isTrue_plain (Dz (?ZT h hw) ?gD) (he _);ext bP;ext YD
variable{tA tB':TT}{rest:?gZ}
abbrev Bj1(t u:TT):TT:=λσ H Q=>t σ H λc H1=>if ?lI then ?HM else Q ?cT H1
abbrev tOr(t u:TT):TT:=λσ H Q=>t σ H λc H1=>if ?lI then Q ?cW H1 else ?HM
abbrev Bi8(t:TT):TT:=λσ H Q=>t σ H ?PL
def Mj[?nR]:?a2N [a] tA:=by
 intro wh Ae s σ H Q I h;apply isTrue_and (Dz (ha Ae s σ H Q I h) λc s1 e=>?_);cases c with
 | true=>exact isTrue_and_nil e
 | false=>exact e
def Lm[?nR]:?a2S [a] tA:=by
 intro wh Ae s σ H Q I h;apply isTrue_or (Dz (ha Ae s σ H Q I h) λc s1 e=>?_);cases c with
 | false=>exact isTrue_or_nil e
 | true=>exact e
def Qs[?nR](hb:?a2N (b::rest) tB'):?a2N (a::b::rest) (Bj1 tA tB'):=by
 intro wh Ae s σ H Q I h;apply isTrue_and (Dz (ha Ae s σ H _ I h) λc s1 _z=>?_);let#[H1,I1,q1]:=_z;cases c with
 | true=>exact ?UZ
 | false=>exact ?qY
def Ln[?nR](hb:?a2S (b::rest) tB'):?a2S (a::b::rest) (tOr tA tB'):=by
 intro wh Ae s σ H Q I h;apply isTrue_or (Dz (ha Ae s σ H _ I h) λc s1 _z=>?_);let#[H1,I1,q1]:=_z;cases c with
 | true=>exact ?qY
 | false=>exact ?UZ
def Dc[?nR]:PT X (?x5 .Not a pos) (Bi8 tA):=by
 ext V;exact isTrue_not (Dz (ha Ae s σ H (?PL) I h) λc s1 ?qY=>?qY)
inductive uM(tb:TE)(σ:St)[?k7]:Prop
 | mk:∀c,?oH->(if ?lI then ?v9 else Q (?p6) H1)->?UR
abbrev Au6(ta tb:TE):TE:=?ZQ ta ?UR
inductive zK(tb:TE)(σ:St)[?k7]:Prop
 | mk:∀c,?oH->(if ?lI then Q (?D1) H1 else ?v9)->?J4
abbrev Bi7(ta tb:TE):TE:=?ZQ ta ?J4
inductive UK[?k7]:Prop
 | mk:∀c,?oH->(Q (?L9) H1)->?EZ
abbrev At9(ta:TE):TE:=?ZQ ta ?EZ
def Pa{op}{t:TE}(h:?a1F a t):?a1F (?bZ op [a] pos) t:=?a1O BoolOp_one
def M5[?uD](hb:?a1F (?bZ .And (b::rest) pos) tb):?a1F (?bZ .And (a::b::rest) pos) (Au6 ta tb):=by
 intro Ae s σ H Q I h;apply BoolOp_and (Dz (ha Ae s σ H _ I h) λv s1 _z=>?_);let#[x,H1,I1,r1,q1]:=_z;let#[c,rfl,q1]:=q1;cases r1;apply qk2 ?_;cases c with
 | true=>ext E0
 | false=>exact#[?p6,H1,I1,rfl,q1]
def Ax6[?uD](hb:?a1F (?bZ .Or (b::rest) pos) tb):?a1F (?bZ .Or (a::b::rest) pos) (Bi7 ta tb):=by
 intro Ae s σ H Q I h;apply BoolOp_or (Dz (ha Ae s σ H _ I h) λv s1 _z=>?_);let#[x,H1,I1,r1,q1]:=_z;let#[c,rfl,q1]:=q1;cases r1;apply qk2 ?_;cases c with
 | false=>ext E0
 | true=>exact#[?D1,H1,I1,rfl,q1]
def rJ[?uD]:?a1F (?x5 .Not a pos) (At9 ta):=by
 ext V;apply ?JI (?QH);ext bP;let#[c,rfl,q1]:=q1;cases r1;exact not_of (qk2 #[?L9,H1,I1,rfl,q1])
abbrev tIf(t:TT)(ta tb:TE):TE:=λσ H Q=>t σ H λc H1=>if ?lI then ta σ H1 Q else ?v9
def c5{c:Expr}(hc:PT X c tA)[?fS]:?a1F (.IfExp c a b pos) (tIf tA ta tb):=by
 intro Ae s σ H Q I h;apply wpAny_IfExp (Dz (hc Ae s σ H _ I h) λd s1 _z=>?_);let#[H1,I1,q1]:=_z;cases d with
 | true=>exact ?ZS ha Q
 | false=>ext E0
universe e9
abbrev SqL[?d](H:Hp)[?bR][?a9]:Prop :=
 Rd H a ?kG ∨
  ∃(o:Obj) (its:?cC) (n:Nat),?F5/\o.cls=?b4/\?KU
abbrev SqT[?d](H:Hp)[?bR][?a9]:Prop :=
 Rd H a ?qQ ∨
  ∃(o:Obj) (its:?cC) (n:Nat),?F5/\?CW/\?KU
abbrev Bx1:?aE->?kZ
 | ?aK=>?c ?u
 | ?bU b=>?c (?bJ)
 | ?g i _=>?c (?I)
 | ?cN x _=>?c (?eM)
 | .bytes b _=>?c (.byt b)
 | .float b _=>?c (.flt b)
 | ?aD=>?c ?bF
 | ?aF n=>?c (.ty n)
 | _=>none
def RelV.abs{x:V}[?aI](r:?cB):Bx1 u=?cX:=by
 cases x with
 | non=>cases r;rfl
 | bl _=>cases r;rfl
 | int _=>ext fZ;rfl
 | str _=>ext fZ;rfl
 | byt _=>ext fZ;rfl
 | flt _=>ext fZ;rfl
 | ref _=>cases r;rfl
 | ty _=>cases r;rfl
def RelV.inj{x y:V}[?aI](r:?cB)(q:?m7):x=y:=qa8 (r.abs.symm.trans q.abs)
def Vals.inj:∀[?hH][?R],?b6->?P ys us->xs=ys
 | _,_,_,?A,?A=>rfl
 | _,_,_,?iB,?H r' t'=>by rw[?qZ,Vals.inj t t']
section
variable{X:Cx}[?B][?aJ][?hH]
def SqL.of[?aH](h:H a=?v7):?dR:=?j (?j h)
def SqT.of[?aH](h:H a=?rP):?dY:=?j (?j h)
def Bn.list[?f](h:?EQ):∃its:?y,?i3/\PlainL ?t a ?M/\?eV:=by
 rcases h with h|⟨o,its,n,hk,hc,hd,hs,hz,r⟩
 . let ?pT:=?U6;exact#[its,r,#[_,n,e,rfl,rfl,rfl],z]
 . apply#[?zJ,r,#[o,n,?KR,hc,hd,?P4],?_];have e:=r.length;simp only[qw4]at e;omega
def Bn.tuple[?f][?EF]:∃its:?y,?i3/\?lL ?t a ?M/\?eV:=by
 rcases h with h|⟨o,its,n,hk,hc,_,hs,hz,r⟩
 . let#[z,its,r,p]:=?U6;exact#[its,r,p.tup,z]
 . apply#[?zJ,r,#[o,?KR,hc,n,?P4],?_];have e:=r.length;simp only[qw4]at e;omega
def Bn.list_inj[?f](h:?EQ)(h':?SJ):xs=ys:=by
 let#[its,r,#[o,n,e,_,_,d],_]:=?b2 h;let#[?eQ,r',#[o',n',e',_,_,d'],_]:=?b2 h';ext WT
 subst this;exact ?qZ
def Bn.tuple_inj[?f][?EF](h':SqT X.K H a ys):xs=ys:=by
 let#[its,r,#[o,e,_,n,d],_]:=?c9 h;let#[?eQ,r',#[o',e',_,n',d'],_]:=?c9 h';ext WT
 subst this;exact ?qZ
universe e9
noncomputable abbrev Cx.wish(X:Cx)[?nK]:Cx:={ X with xe:=E }
noncomputable abbrev Cx.nox(X:Cx):Cx:=X.wish ?g8
def Cx.Ok.wish{X:Cx}(ok:X.Ok)[?nK]:?L6 :=
 ?M3
def Cx.Ok.unwish{X:Cx}[?a3](ok:?L6):X.Ok :=
 ?M3
section
variable{X:Cx}[?B][?a3]
def Bn.wish[?f][?nK]:?FF:=#[I.ok.wish E,?iS,?bY,?xM,?qS,?f7,?dL,?cQ,?iC,?b8,?pW]
def Bn.unwish(I:?FF):?C:=#[I.ok.unwish,?iS,?bY,?xM,?qS,?f7,?dL,?cQ,?iC,?b8,?pW]
def SP.unwish{D:Ends}{f:Flow}{s':Shared}(h:SP (X.wish E) Ae D f s'):SP X Ae D f s':=by
 cases f with
 | next=>ext DL
 | brk=>ext DL
 | cont=>ext DL
 | ret u=>let#[v,σ',H',I,r,q]:=h;exact#[v,σ',H',?PZ,r,q]
def MU.nox{st:?fA}{t:TS}(h:MU X.nox st t):MU X st t:=λAe s σ H D I hw =>
 ql1 (h Ae s σ H D (I.wish _) hw) (λ_ _ q=>q.unwish) λ_ _ z=>?e0 z
universe e9
section
variable{X:Cx}{st:Stmt}{rest:?fA}{t u:TS}[?uB][?a4]
abbrev Au0:TS:=λD σ H=>?bT
abbrev At(t u:TS):TS:=λD σ H=>t { D with nx:=u D } σ H
def Bj:MU X [] Au0:=λ_ _ σ H _ I h=>qw6 ?KO
def Ac(h1:?LE)(h2:MU X rest u):MU X (st::rest) (At t u):=by
 intro Ae s σ H D I h;apply wpAny_execs_cons (Dz (h1 Ae s σ H { D with nx:=u D } I h) λf s1 q=>?_);cases f with
 | next =>
   let#[σ',H',I',q]:=q;exact h2 Ae s1 σ' H' D I' q
 | ret v=>exact q
 | brk=>exact q
 | cont=>exact q
def Ai(h1:?LE):MU X [st] t:=by
 intro Ae s σ H D I h;apply wpAny_execs_cons (Dz (h1 Ae s σ H D I h) λf s1 q=>?_);cases f with
 | next=>exact qw6 q
 | ret v=>exact q
 | brk=>exact q
 | cont=>exact q
def Bn.quiet[?B][?f]:interactive ?h=false:=by simp[interactive,I.ok.kind]
abbrev Au2(te:TE):TS:=λD σ H=>te σ H λ_ H1=>?LL
def Br[?hG](hs:?pR e ?a5 ?oO ?h=?sB:=by rfl):PS X (.Expr e pos) (Au2 te):=by
 ext hC;exact wpAny_Expr_any (Dz ?gS λv s1 ?j4=>#[σ,H1,I1,q1]) I.quiet hs
abbrev Bi6(te:TE):TS:=λD σ H=>te σ H D.rt
def Bb[?hG]:PS X (.Return (?c e) pos) (Bi6 te):=by
 ext hC;exact wpAny_Return_some (Dz ?gS λv s1 ?j4=>#[x,σ,H1,I1,r1,q1])
abbrev vJ(c:TT)(t u:TS):TS:=λD σ H=>c σ H λb H1=>if ?kU then t D σ H1 else u D σ H1
def Bx{c:Expr}{a b:?fA}{tc:TT}(hc:?GD)(ha:MU X a t)(hb:MU X b u):PS X (.If c a b pos) (vJ tc t u):=by
 intro Ae s σ H D I h;apply wpAny_If (Dz (hc Ae s σ H _ I h) λd s1 _z=>?_);let#[H1,I1,q1]:=_z;cases d with
 | true=>exact ?ZS ha D
 | false=>exact ?ZS hb D
abbrev Aa2:TS:=?r1
def Nv:PS X st Aa2:=λ_ _ _ _ _ _ h=>h.elim
universe e9
noncomputable abbrev TG:=V->?a4A ?F
noncomputable abbrev VC:=?o->?a4A ?F
abbrev PG(X:Cx)(target:Expr)(t:TG):Prop :=
 ∀[?O] (v:V) [?eE] (Q:?F),?C->?d4->t v σ H Q →
   ?ZL (?fB target ?h u) (λ_ s'=>NP X Ae Q s')
abbrev PGs(X:Cx)(ts:?gZ)(t:VC):Prop :=
 ∀[?O] [?eB] [?dE] (Q:?F),?C->?g9->t vs σ H Q →
   ?e ?k X.A (assignInOrder ((?sI ts ?h).map (·.2)) us) (λ_ s'=>?a1U Q) ?m s
noncomputable abbrev Al5:=V->V->V->?ZX Hp (?aB)
abbrev A90(X:Cx)(t:Al5):Prop :=
 ∀[?O] (o i v:V) (ov iv u:Value) (Q:?aB),?C->?c3 o ov->?c3 i iv->?d4->t o i v H Q →
   ?ZL (setItem ov iv u) (λ_ s'=>?KN)
section
variable{X:Cx}[?a4]
abbrev cP(i:Nat):TG:=λv σ H Q=>Q (σ.set i ?lQ) H
def WA[?fY][?tJ][?h7]:?P7:=by
 intro Ae s σ H v u Q I r h;exact ?U8 (FY I hN hi hx r (λs' I'=>#[_,H,I',h]) hf)
def Ap[?fY](hN:X.N.Nodup)[?XU][?h7]:?P7:=WA hN hi hx hf
structure A99[?eB][?E1]:Prop where
 mk::(left:?pH) (right:Q σ H)
abbrev Bv3:VC:=λvs σ H Q=>A99 vs σ H Q
inductive uU(t:TG)(u:VC)[?eB][?E1]:Prop
 | mk:∀v r,(vs=v::r)->(t v σ H λσ' H'=>u r σ' H' Q)->?Q5
abbrev A60(t:TG)(u:VC):VC:=λvs σ H Q=>?Q5
def Dl:PGs X [] Bv3:=by
 intro Ae s σ H vs us Q I r h;let#[e,h]:=h;subst e;cases r;exact assignInOrder_nil ?KO
def Bl{e:Expr}[?aC]{t:TG}{u:VC}(h1:PG X e t)(h2:PGs X es u)
 (hs:(?sI ?d6 ?h).map (·.2)=?fB e ?h::(?wM).map (·.2):=by rfl):PGs X ?d6 (A60 t u):=by
 intro Ae s σ H vs us Q I r h;let#[v,vr,e1,h]:=h;subst e1;cases r with
 | cons r rr =>
   rw[hs];apply assignInOrder_cons (Dz (h1 Ae s σ H _ _ _ I r h) λ_ s1 _z=>?_);let#[σ1,H1,I1,q1]:=_z;exact h2 Ae s1 σ1 H1 _ _ Q I1 rr q1
inductive ZQ[?d](n:Nat)(t:VC)(v:V)[?E1]:Prop
 | mk:∀a xs,(?jM)->?lU->(xs.length=n)->(t xs σ H Q)->?IR
abbrev A59[?d](n:Nat)(t:VC):TG:=λv σ H Q=>?IR
def Ac4[?aC]{k:Nat}{t:VC}{n:Nat}[?cF](h:?N0)
 [?Z0] (hst:?FT (·.1)=none:=by rfl):?a34 X.K:=by
 intro Ae s σ H v u Q I r hw;let#[a,xs,e1,hq,hl,hw]:=hw;subst e1;cases r;let#[its,rv,ht,hz]:=?gK;apply assign_Tuple_tuple ?e8 ht (by simp[hn,←hl,rv.length]) hst λh' hx=>?_;have I1:?vA:=?lY (t':=s.toks) λb o e=>hx b o (qe2 ?dP) e;exact h Ae _ σ H xs _ Q I1 (?M4) hw
abbrev Bv2(to ti:TE)(t:Al5):TG:=λv σ H Q=>to σ H λo H1=>ti σ H1 λi H2=>t o i v H2 λH3=>Q σ H3
def Lq{o i:Expr}{to ti:TE}{t:Al5}(ho:?NF)(hi:?a1F i ti)(hs:A90 X t)
 (ha:∀v,?fB (?sK o i pos) ?h v=(do
   let ov ←?kX [v] (?mA)
   let iv ←?kX [v,ov] (?a4F i)
   ?vF pos
   ?kX ?VC (setItem ov iv v)
   release ?VC []):=by intro _;rfl):PG X (?sK o i pos) (Bv2 to ti t):=by
 intro Ae s σ H v u Q I r h;rw[ha];apply qa6 (qo0 (Dz (?ZT ho h) λov s1 _z=>?_));ext bP;apply qa6 (qo0 (Dz (?ZS hi _) λiv s2 _z=>?_));let ?q0:=_z;apply ?a2L ?xD (qo0 (Dz (hs Ae s2 σ H2 x y v ov iv u _ I2 r1 r2 r q2) λ_ s3 _z=>?_));let ?OR:=_z;exact wpAny_release #[σ,H3,I3,q3]
abbrev VJ(te:TE)(g:TG):TS:=λD σ H=>te σ H λx H1=>g x σ H1 ?iU
def Lo{tg e:Expr}{te:TE}{g:TG}[?hG](hg:?HQ)(hs:swapsWithSole [tg] e ?oO ?h=?sB:=by rfl)(hw:swappedStores [tg] e ?h=?T ?a5:=by rfl)
 (h1:(?sI [tg] ?h).map (·.2)=[?fB tg ?h]:=by rfl):PS X (?sO [tg] e pos) (VJ te g):=by
 ext hC;apply wpAny_Assign_stores (Dz ?gS ?gD) hs hw;ext bP;rw[h1];exact Dz (hg Ae s1 σ H1 x v _ I1 r1 q1) λ_ s2 q=>q
def Ac0[?fY][?uB]{pos':Pos}[?tJ][?hG][?XK][?h7] :
 ?HD:=by
 ext hC;apply wpAny_Assign_Name (Dz ?gS ?gD) hs;let#[y,H1,I1,r1,q1]:=_z;exact FY I1 hN hi hx r1 (λs2 I2=>#[_,H1,I2,q1]) hf
def Ao[?fY][?uB]{pos':Pos}(hN:X.N.Nodup)[?hG][?XU][?XK][?h7]:?HD:=Ac0 hN hi hx he hs hf
universe e9
section
variable{X:Cx}[?a4]
abbrev Aa0(c:TT)(tb:TS):TS:=λD σ H=>∃W:?t5,(∃m,?H8)/\∀m σ H,?H8 →
 c σ H λb H1=>if ?kU then ∃N:?F,(∀σ' H',?rM->∃m',m'<m/\W m' σ' H')/\tb ?M1 σ H1 else ?LL
def U1{c:Expr}{body:?fA}{tc:TT}{tb:TS}[?YX](hc:?GD)(hb:?R2):PS X (.While c ?h5 [] pos) (Aa0 tc tb):=by
 intro Ae s σ H D I h;let#[W,#[m0,w0],turn]:=h;apply wpAny_While (codeAny_whileLoop (λn s'=>∃σ' H',Bn X Ae σ' H' s'/\W n σ' H') ?_ m0 #[σ,H,I,w0]);rintro n s1 ⟨σ1,H1,I1,w1⟩;apply qn6 hp (Dz (hc Ae s1 σ1 H1 _ I1 (turn n σ1 H1 w1)) λb s2 _z=>?_);let#[H2,I2,q2]:=_z;cases b with
 | true =>
   let#[N,hN,q2]:=q2;rw[if_pos rfl];apply qn6 hp (Dz (hb Ae s2 σ1 H2 _ I2 q2) λf s3 q3=>?_);cases f with
   | next =>
     ext X4
   | cont =>
     ext X4
   | brk=>exact q3
   | ret v=>exact q3
 | false =>
   rw[?v qe3];exact qw6 #[σ1,H2,I2,q2]
universe e9
structure It where
 go:?SA
 yld:Nat->Hp->?hY
 stop:?SA
abbrev Nk[?cG](H:Hp)(b:Addr):Prop :=
 ?Z/\?jF/\?o5/\(b∈X.ex\/?ZV b)/\?HC
def Bn.fpOk[?uI]{σ:St}[?eF][?b1]{b:Addr}[?f](hb:?IV)(hn:?pB):?SU:=by
 apply#[hn,qm6 (qb5 I.lt hb),I.nofs hb,?i (qa5 I.sz hb),λx c e z=>?_,λp hp z=>?_]
 . let#[v,q]:=?pL;exact ?a0Y q.lt (by rw[z];exact hb)
 . exact ?a0Y (qc3 (?SS).1) (by rw[z];exact hb)
structure Xn[?fV][?d](tg:Expr)(J:It)[?uC](it:Addr)(tn:?oG):Prop where
 mem:it∈fp
 obj:∀i h,tn i h->∀b∈fp,?RC
 keep:∀i h h',tn i h->(∀b∈fp,∀o,?dX->?sC)->tn i h'
 item:∀(X:Cx),?KL->X.w=w->X.K=K->?rC->∀(i:Nat) [?O] [?nK],?C->(?vX)->?wL->?yB →
  ?e ?g2 X.A (pyNext ?cR) (λr s1=>∃u,r=?U ∧
   ?e ?g2 X.A (?oN tg ?cR u) (λ_ s2=>YP X Ae σ u (J.yld i H) (tn ?aO ?t6) fp s2) E s1) E s
 done:∀(X:Cx),?KL->X.w=w->X.K=K->?rC->∀(i:Nat) [?O] [?nK],?C->(?vX)->?wL->?yW →
  ?e ?g2 X.A (pyNext ?cR) (λr s1=>r=none/\?ZR H s1) E s
 self:∀[?kE] (i:Nat) [?n9],?wL->Q ?cR s->?ZU ?g2 (?BK ?cR)
noncomputable abbrev TI:=?a4A ?tF
abbrev PIE[?cG](σ:St)(tg:Expr)[?u7](itv:Value)(s2:Shared):Prop :=
 ∃(it:Addr) (fp:?aV) (tn:?oG) (J:It) (H':Hp),itv=?l it/\?LP/\?OW/\tn 0 ?t6/\(?TT)/\R J H'
abbrev PI(X:Cx)(tg iter:Expr)(wi:TI):Prop :=
 ∀[?O] [?u7],?C->wi σ H R →
   ?ZL (?a4F iter) (λv s1=>?e ?k X.A (?BK v) (PIE X Ae σ tg R) ?m s1)
def HV{M:Model}[?E][?a3][?b1]{tg:Expr}{it:Addr}[?aI]{o:Obj}{n:String}{vs:?cC}[?nL](ho:?W0)(hc:o.cls=?aF n)(hd:o.data=?iT vs)
 (hn:?ZO n=false) (hQ:Q () s):?ZU M (?oN tg ?cR u):=by
 unfold letOwnedTupleGo
 cases tg<;>first
  | exact ?B4
  | (cases u<;>first
      | exact ?B4
      | (apply qa6 (wpAny_load ho ?_)
         rw[hc,hd];show ?e M A (if ?a4N (?ZO n&&vs[0]?==?c (rawInt _)) then _ else _) Q E s;rw[?v (by intro h;rw[hn,Bool.false_and]at h;cases h)];exact ?B4))
abbrev Itl[?d][?bR]:It :=
 #[?a27 ?dR,?a3G ?dR,?a2R ?dR]
abbrev Itt[?d][?bR]:It :=
 #[?a27 ?dY,?a3G ?dY,?a2R ?dY]
abbrev xY(lo:Int)(n:Nat):It:=#[λi _=>i<n,λi H x H'=>H'=H/\x=?kQ,λi _=>n<=i]
def NF[?cE]{tg:Expr}(a it:Addr):?a2M ?rE (λi h=>?NI) where
 mem:=?a0
 obj:=λi h st b hb=>by
  ext tQ
  ext XF
 keep:=?S7
 item:=by
  ext d9;ext X8;ext h9;apply wpAny_pyNext_list_item st ?a1 (x:=u) ?pY ?I2;ext WJ;exact(?a1A #[rfl,?N5])
 done:=by
  ext d9;ext YE;ext h9;have hl:=rv.length;exact wpAny_pyNext_list_end ?e8 st ?a1 ?m6 ?BW
 self:=?a1L wpAny_pyIter_listiter
def iY[?cE]{tg:Expr}(a it:Addr):?a2M ?oL (λi h=>h.IsTupleIter it a i) where
 mem:=?a0
 obj:=λi h st b hb=>by
  ext tQ
  ext XF
 keep:=?S7
 item:=by
  ext d9;let ?LV:=hg;let ?hT:=?gK;let ?j0:=?iY hx;ext h9;apply wpAny_pyNext_tuple_item st (?a32 a) (x:=u) ?pY ?I2;ext WJ;exact(?a1A #[rfl,?a4J ?W1])
 done:=by
  ext d9;let ?R8:=hg;let ?hT:=?gK;ext h9;have hl:=rv.length;exact wpAny_pyNext_tuple_end ?e8 st (?a32 a) ?m6 ?BW
 self:=?a1L wpAny_pyIter_tupleiter
def IY[?cE]{tg:Expr}(it:Addr)(lo:Int)(n:Nat):?a2M (?iR) (λi h=>?PO h it (lo+(i:Nat)*1) (?aR-(i:Nat)) 1) where
 mem:=?a0
 obj:=λi h st b hb=>by
  ext tQ
  subst e
  exact#[_,st,λv z=>by
   have z':?v4:=z;cases z']
 keep:=λi h h' st k=>k it ?G _ st
 item:=by
  ext d9;ext h9;have W:=Walks.range (prog:=X.prog) (w:=X.w) ?e8 it lo 1 n;apply W.item i s _ _ hg st λv h' tk hv st' kk=>?_;let ?cV:=hv;have I1:?IE:=?qE (λb o hb e=>kk b o (?i4) e) f0 f1 f3 f4 f5;apply#[_,rfl,HV (s:=?M8) (n:="range_iterator") st' rfl rfl ?bN #[?kQ,H,I1,#[t,?_],?FX,st',?o6]];rw[qm0]
 done:=by
  ext d9;ext h9;exact wpAny_pyNext_range_end ?e8 st (by have:n<=i:=hg;omega) ?BW
 self:=?a1L wpAny_pyIter_rangeiter
section
variable{X:Cx}{tg:Expr}
inductive uS[?d][?u7](x:V)(H1:Hp):Prop
 | mk:∀a,?d3->?a31 ?rE ?FS
abbrev zB[?d](tl:TE):TI:=?a44 ?FS
inductive zQ[?d][?u7](x:V)(H1:Hp):Prop
 | mk:∀a,?d3->((∃xs,SqT K H1 a xs))->(R ?oL H1)->?NX
abbrev A22[?d](tl:TE):TI:=?a44 ?NX
def VZ{l:Expr}{tl:TE}[?uE]:?a2G zB X.K:=by
 ext XE;ext bP;let ?F1:=q1;subst e;cases r1;let ?hT:=?qN hq;apply qr1 ?a1 ?_;apply(?a2B NF);ext YJ
 ext DG
def Ac3{l:Expr}{tl:TE}[?uE]:?a2G A22 X.K:=by
 ext XE;ext bP;let ?F1:=q1;subst e;cases r1;let ?hT:=I1.tuple hq;apply qn4 (show s1.heap.IsTuple a ?M from p) ?_;apply(?a2B iY);ext YJ
 ext DG
def gO[?B]{R:?tF}[?a3]{lo hi:Int}{t u v:Tok}{tk:Nat}[?f](h1:-(?c5)<=lo)(h2:lo<?c5)(h3:-(?c5)<=hi)(h4:hi<?c5)
 (q:R (xY lo ?sN) H):?e ?k X.A (?BK ?fG) (PIE X Ae σ tg R) E ?PW:=by
 apply wpAny_pyIter_range (IsRange.new ..) (small_one h1 h2 h3 h4) ?_;have I1:?ZR H ?PW:=?lY ?sG
 apply#[?xG,[?xG],_,_,H,rfl,
  ?x1 (t':=tk) ?sG,IY _ lo ?sN,?_,?gC,q]
 . have e1:?U2=lo:=?a0
   have e2:((?sN:Nat):Int)-?w8=Builtin.Range.rangeSize lo hi 1:=by rw[rangeSize_one];split<;>omega
   show ?PO _ _ (?U2) (((?sN:Nat):Int)-?w8) 1;rw[e1,e2];exact ?gU
 . have e:b=?xG:=?i4
   ext DG
inductive UR[?tP]:Prop
 | mk:∀j:Int,(vs=[?g j])->(-(?c5)<=j)->(j<?c5)->(R (xY 0 j.toNat) H1)->?QB
abbrev A24(ta:TA):TI:=?a0A ?QB
inductive uR[?tP]:Prop
 | mk:∀i j:Int,(vs=?vY)->((-(?c5)<=i/\i<?c5/\-(?c5)<=j/\j<?c5))->(R (xY i (j-i).toNat) H1)->?G5
abbrev A23(ta:TA):TI:=?a0A ?G5
def Cf{a:Expr}[?Y3](ha:?OS)[?YB]:PI X tg (?a0M ?kN [a]) (A24 ta):=by
 intro Ae s σ H R I h;apply Call_ (M7 I hg hm boot_range (qh1 (Dz (ha pos Ae s σ H _ I h) λus s1 _z=>?_) hs rfl));let#[vs,H1,I1,r1,q1]:=_z;let#[j,e,q1,q2,q]:=q1;subst e;cases r1 with
 | cons r rr =>
   cases rr;ext fZ;exact call_range_1 (gO I1 O9m O9m q1 q2 (by simpa using q))
def CB{a b:Expr}[?Y3](ha:?LU)[?WR] :
 PI X tg (?a0M ?kN ?b5) (A23 ta):=by
 intro Ae s σ H R I h;apply Call_ (M7 I hg hm boot_range (qh1 (Dz (ha pos Ae s σ H _ I h) λus s1 #[vs,H1,I1,r1,q1]=>?_) (by rw[hs,hs2]) (by rw[hs2];rfl)));let#[i,j,e,#[q1,q2,q3,q4],q]:=q1;subst e;cases r1 with
 | cons r rr =>
   cases rr with
   | cons r' rr =>
     cases rr;ext fZ;let ?vG:=r';exact call_range_2 (gO I1 q1 q2 q3 q4 q)
abbrev Bj0(wi:TI)(g:TG)(tb:TS):TS:=λD σ H=>wi σ H λJ H1=>∃W:?f1,(∃m,W 0 m σ H1)/\∀i m σ H,?eW →
 (?yW/\?bT)\/(?yB/\∃N:?F,?eL/\∀x H',?O1->?fJ)
abbrev b8[?uC][?dK]:Bm:=fp.filterMap λb=>(?pD).map λo=>?s3
def Pd[?dF][?aQ][?kA](hb:b∈fp)(e:?dX):?s3∈b8 fp h:=List.mem_filterMap.mpr #[b,hb,by rw[e];rfl]
def oF[?dF][?aQ]{p:?R5}(hp:p∈b8 fp h):p.1∈fp/\?d5 p.1=?c p.2:=by
 let#[b,hb,e]:=List.mem_filterMap.mp hp;cases q:h.get? b with
 | none=>rw[q]at e;cases e
 | some o =>
   rw[q]at e;have e':?s3=p:=qa8 e;subst e';exact#[hb,q]
def Bn.pinned[?B][?dF][?f][?hB](ho:?LI):Bn X (Ae++b8 fp ?t) σ H s :=
 ?UN λp hp=>?TX (λz=>?iC p (qg6 _ z)) λz=>by
  let#[hb,e]:=oF z;let#[f0,f1,f2,_]:=hf p.1 hb;let#[o,e',d]:=ho p.1 hb;rw[e]at e';cases e';exact#[e,f0,f1,f2,d]
def Bn.unpinned{Ae pl:Bm}[?nV][?b1](I:Bn X (Ae++pl) σ H s):?C:=?UN λp hp=>?iC p (qg6 _ (qn5 _ hp))
def B6{iter:Expr}{body:?fA}{wi:TI}{g:TG}{tb:TS}[?a4][?YX][?cF](hi:?HB)(hg:?HQ)(hb:?R2)
 [?DE]:PS X (.For tg iter ?h5 [] pos) (Bj0 wi g tb):=by
 ext hC;apply wpAny_For (?a4E h) hs;let#[it,fp,tn,J,H2,e,I2,T,st2,f2,W,?Q4,turn]:=h2;subst e;have JA:∀{H':Hp},?iN->?TT:=λhn b hb=>#[hn b hb,(f2 b hb).2]
 apply codeAny_forLoop_any (λn s'=>∃i σ' H',?OE/\?T3/\?iN/\W i n σ' H') ?_ m0 #[0,σ,H2,I2,st2,λb hb=>(f2 b hb).1,w0];rintro n s3 ⟨i,σ3,H3,I3,st3,vA,w3⟩;rcases turn i n σ3 H3 w3 with⟨stop,qn⟩|⟨go,N,hN,step⟩
 . apply qn6 hp (Dz (T.done X rfl rfl rfl hc i Ae s3 σ3 H3 ?m I3 ?qP st3 stop) ?oF);let ?FK:=_z;subst hr;exact qw6 #[σ3,H3,I4,qn]
 . apply qn6 hp (Dz (T.item X rfl rfl rfl hc i Ae s3 σ3 H3 ?m I3 ?qP st3 go) ?oF);let ?O6:=_z;subst hr;apply qn6 hp (Dz h4 ?WA);ext X6;apply qn6 hp (Dz (hg _ s5 σ3 H5 x u _ I5' r5 (step x H5 y5)) λ_ s6 _z=>?_);let#[σ6,H6,I6,q6]:=_z;apply qn6 hp (Dz (hb _ s6 σ6 H6 _ I6 q6) λf s7 q7=>?_)
   have again:∀{σ7:St}{H7:Hp},Bn X (Ae++?OY) σ7 H7 s7->N σ7 H7->∃m,m<n/\∃i σ' H',Bn X Ae σ' H' s7/\?N9/\?iN/\W i m σ' H':=λ{σ7 H7} I7 n7=>by
    let ?HG:=hN σ7 H7 n7;apply#[m',hm,i+1,σ7,H7,?t9,?MW,?gC,w7];ext X0
   cases f with
   | next=>let ?QG:=q7;exact ?MY
   | cont=>let ?QG:=q7;exact ?MY
   | brk=>let#[σ7,H7,I7,q7]:=q7;exact#[σ7,H7,?t9,q7]
   | ret v=>let#[x7,σ7,H7,I7,r7,q7]:=q7;exact#[x7,σ7,H7,?t9,r7,q7]
universe e9
def for_list[?fR][?n8][?YG]
 [?WK] :
 ∃W:?f1,?g6/\∀i m σ H,?eW →
   ?a4I ?p2 (?ZK ?p2 ?p2):=by
 ext D9;ext DY;have q:=?K8;ext k1
 . ext D6;ext Y4
 . ext k2
   ext YK
def mK[?fR][?n8](hl:?a15 ?eR ?dY)
 [?WK] :
 ∃W:?f1,?g6/\∀i m σ H,?eW →
   ?a4I ?oW (?ZK ?oW ?oW):=by
 ext D9;ext DY;have q:=?K8;ext k1
 . ext D6;ext Y4
 . ext k2
   ext YK
def Ch{lo:Int}{n:Nat}[?n8]
 (hs:∀i σ H,i<n->?bW->g (?kQ) σ H ?sH) (hd:?PC) :
 ∃W:?f1,?g6/\∀i m σ H,?eW →
   ?a4I ?iR (?ZK ?iR ?iR):=by
 ext XC;ext DY;by_cases hlt:i<n
 . apply ?a2U hlt ?LJ;let ?t2:=y;subst e y;exact hs i σ _ hlt p
 . have e:i=n:=O9m
   subst e;exact ?j #[?dS,?OB]
noncomputable abbrev R2:=V->?lH
abbrev P9(X:Cx)(f:?RV)(r:R2):Prop :=
 ∀[?O] (x y:V) (v u:Value) (Q:VK),?C->?e1->?m7->?OO →
   ?ZL ?yT ?b3
abbrev UnR(X:Cx)(f:?BL)(r:?lH):Prop :=
 ∀[?O] (x:V) (v:Value) (Q:VK),?C->?e1->r x H Q →
   ?ZL (f v) ?b3
abbrev Fm(X:Cx)(f:Value)(r:?d0):Prop :=
 ∀[?O] [?a9] [?dE] (Q:VK),?C->?b6->?MB →
   ?ZL (call f us) ?b3
abbrev tOp(r:R2)(ta tb:TE):TE:=λσ H Q=>ta σ H λx H1=>tb σ H1 λy H2=>r x y H2 Q
abbrev tUn(r:?lH)(ta:TE):TE:=λσ H Q=>ta σ H λx H1=>r x H1 Q
inductive IrI(C:?BM)[?uA][?bQ]:Prop
 | mk:∀i j,?qO->(y=?g j)->(C i j)->?HE->?JY
abbrev rI(C:?BM)[?uA]:R2:=?a0H ?JY
inductive A98[?uA][?bQ]:Prop
 | mk:∀i j,?qO->(y=?g j)->?HE->?T4
abbrev yK[?uA]:R2:=?a0H ?T4
inductive IrU(g:?y3)(x:V)[?b9]:Prop
 | mk:∀i,?qO->(Q (g i) H)->?N6
abbrev rU(g:?y3):?lH:=λx H Q=>?N6
section
variable[?ZD][?a4]
def Al3[?fS][?nG]{R:V->?hY}[?f]
 [?YZ] [?dD][?tY]
 [?WX] :
 ?PE:=by
 ext YV;ext bP;ext WU
def Bh{op:Operator}{r:R2}(ho:P9 X (?fL op) r)[?fS]:?a1F (.BinOp a op b pos) ?qV:=by
 ext V;exact wpAny_BinOp (?a08 u)
def Nw{op:UnaryOp}{r:?lH}(ho:UnR X (unaryOp op) r)[?uD]:?a1F (?x5 op a pos) (tUn r ta):=by
 ext V;exact ?JI (Dz ?lP λv s1 ?j4=>ho Ae s1 σ H1 x v Q I1 r1 q1)
def opI[?tY]{C:?BM}{g:?F8}
 (rule:∀[?ED] [?n9],C i j->?O4) :
 P9 X f (rI C ?V7):=by
 ext dC;let#[i,j,rfl,rfl,hc,q]:=h;ext hF;ext p;exact rule i j t t' s _ _ hc ?S5
def Ay3[?tY]{g:?F8}
 (rule:∀[?ED] [?n9],?O4) :
 P9 X f (yK ?V7):=by
 ext dC;let ?QR:=h;ext hF;ext p;exact rule i j t t' s _ _ ?S5
def wJ[?tY]{g:Int->?QY}
 (rule:∀[?ED] [?n9],Q (?bU ?g5) s->?VT) :
 ?a0E f ?g5:=by
 ext dC;let ?QR:=h;ext hF;ext p;exact rule i j t t' s _ _ #[.bl ?g5,H,I,rfl,q]
abbrev B28(i j:Int):Prop:=0<j/\?JM
abbrev B27(i j:Int):Prop:=0<=j/\j<=1000000/\i.natAbs<?mW
abbrev An1(i j:Int):Prop:=(-(?mW)<i/\i<?mW)\/(-(?mW)<j/\j<?mW)
def An1.ok{i j:Int}(h:An1 i j):IntMulOk i j:=by
 rcases h with⟨h1,h2⟩|⟨h1,h2⟩
 . exact .of_left (intBits_le_64 h1 h2)
 . exact .of_right (intBits_le_64 h1 h2)
def Cq:P9 X ?jE (yK λi j=>?g (i+j)):=?a03 Ay3 add_int
def G0:P9 X (?fL .Sub) (yK λi j=>?g (i-j)):=?a03 Ay3 sub_int
def Kw:P9 X (?fL .FloorDiv) (rI B28 λi j=>?g (i / j)):=opI λi j _ _ _ _ _ hc q=>by
 have h1:(0:Int)<j:=hc.1;have h2:?JM:=hc.2;exact floordiv_int O9m (by rw[qg3 i ?X];exact q) (?j (PyProof.noPylong_small O9m))
def Eg:P9 X (?fL .Mod) (rI (λ_ j=>0<j) λi j=>?g (i%j)):=opI λi j _ _ _ _ _ hc q=>by
 have h1:(0:Int)<j:=hc;exact mod_int' O9m (by rw[Int.fmod_eq_emod_of_nonneg i ?X];exact q)
def DW:P9 X (?fL .Pow) (rI B27 λi j=>?g (i ^ j.toNat)):=opI λ_ _ _ _ _ _ _ hc q=>pow_int_small hc.1 hc.2.1 hc.2.2 q
def unI{f:?BL}{g:?L3}
 (rule:∀(i:Int) (t:Tok) [?n9],Q (?g (g i) ?kF) ?i8->?a3T (f ?s2)) :
 UnR X f (rU λi=>?g (g i)):=by
 intro Ae s σ H x v Q I rx h;let ?MD:=h;ext hF;exact rule i t s _ _ #[?g (g i),H,?gY,?bV,q]
def Je:UnR X (unaryOp .USub) (rU λi=>?g (-i)):=unI λ_ _ _ _ _ q=>neg_int q
universe e9
abbrev scal:V->V->?cP
 | ?u,?u=>true | ?u,?e5=>true | ?e5,?u=>true | ?u,?eP=>true | ?eP,?u=>true | ?u,?c1=>true | ?c1,?u=>true
 | ?e5,?e5=>true | ?eP,?eP=>true | ?c1,?c1=>true | .byt _,.byt _=>true
 | ?e5,?c1=>true | ?c1,?e5=>true | ?eP,?c1=>true | ?c1,?eP=>true
 | _,_=>false
structure B22[?bQ]:Prop where
 mk::(left:?QP) (right:?a07 (?ML))
abbrev rEq:R2:=λx y H Q=>B22 x y H Q
structure B21[?bQ]:Prop where
 mk::(left:?QP) (right:?a07 (! ?ML))
abbrev rNe:R2:=λx y H Q=>B21 x y H Q
def mO{i j:Int}:?q (?bE i=?bE j)=?xT:=by
 rw[qm8];simp
def tX{i j:Bool}:?q (V.bl i=V.bl j)=?xT:=by
 rw[qm8];simp
def MN{i j:Str}:?q (V.str i=V.str j)=?xT:=by
 rw[qm8];simp
def MO{i j:?MR}:?q (V.byt i=V.byt j)=(i.toList==j.toList):=by
 rw[qm8];cases i;cases j;simp
section
variable[?ZD][?a4]
def Cr[?B]{Q:VK}{k k':Bool}[?f](q:Q (?p5) H)(e:k=k'):?a0I (?bU k') s:=by
 subst e;exact#[?p5,H,I,rfl,q]
def Fb:P9 X (?aM .Eq) rEq:=by
 intro Ae s σ H x y v u Q I rx ry h;let#[hs,q]:=h;cases x with
 | non =>
   cases rx;cases y with
   | non=>cases ry;exact PySem.EqNone.eq_none_none ?K
   | bl j=>cases ry;exact PySem.EqNone.eq_none_bool ?K
   | int j=>ext p;exact PySem.EqNone.eq_none_int ?K
   | str j=>ext p;exact PySem.EqNone.eq_none_str ?K
   | _=>ext dA
 | bl i =>
   cases rx;cases y with
   | non=>cases ry;exact PySem.EqNone.eq_bool_none ?K
   | bl j=>cases ry;exact eq_bool (Cr I q tX)
   | str j=>ext p;exact PySem.EqMixed.eq_bool_str ?K
   | _=>ext dA
 | int i =>
   let#[t,rfl]:=rx;cases y with
   | non=>cases ry;exact PySem.EqNone.eq_int_none ?K
   | int j=>ext p;exact eq_int (Cr I q mO)
   | str j=>ext p;exact PySem.EqMixed.eq_int_str ?K
   | _=>ext dA
 | str i =>
   let#[t,rfl]:=rx;cases y with
   | non=>cases ry;exact PySem.EqNone.eq_str_none ?K
   | bl j=>cases ry;exact PySem.EqMixed.eq_str_bool ?K
   | int j=>ext p;exact PySem.EqMixed.eq_str_int ?K
   | str j=>ext p;exact eq_str (Cr I q MN)
   | _=>ext dA
 | byt i =>
   let#[t,rfl]:=rx;cases y with
   | byt j=>ext p;exact PySem.W.eq_bytes (Cr I q MO)
   | _=>ext dA
 | _=>ext XV
def Ib:?a2T rNe:=by
 intro Ae s σ H x y v u Q I rx ry h;let#[hs,q]:=h;cases x with
 | non =>
   cases rx;cases y with
   | non=>cases ry;exact PySem.EqNone.ne_none_none ?K
   | bl j=>cases ry;exact PySem.EqNone.ne_none_bool ?K
   | int j=>ext p;exact PySem.EqNone.ne_none_int ?K
   | str j=>ext p;exact PySem.EqNone.ne_none_str ?K
   | _=>ext dA
 | bl i =>
   cases rx;cases y with
   | non=>cases ry;exact PySem.EqNone.ne_bool_none ?K
   | bl j=>cases ry;exact ?a1B ne_bool tX
   | str j=>ext p;exact PySem.EqMixed.ne_bool_str ?K
   | _=>ext dA
 | int i =>
   let#[t,rfl]:=rx;cases y with
   | non=>cases ry;exact PySem.EqNone.ne_int_none ?K
   | int j=>ext p;exact ?a1B ne_int mO
   | str j=>ext p;exact PySem.EqMixed.ne_int_str ?K
   | _=>ext dA
 | str i =>
   let#[t,rfl]:=rx;cases y with
   | non=>cases ry;exact PySem.EqNone.ne_str_none ?K
   | bl j=>cases ry;exact PySem.EqMixed.ne_str_bool ?K
   | int j=>ext p;exact PySem.EqMixed.ne_str_int ?K
   | str j=>ext p;exact ?a1B ne_str MN
   | _=>ext dA
 | byt i =>
   let#[t,rfl]:=rx;cases y with
   | byt j=>ext p;exact ?a1B PySem.W.ne_bytes MO
   | _=>ext dA
 | _=>ext XV
def Qv:?a0E (?aM .Lt) (?q (i<j)):=?a03 wJ lt_int
def LU:?a0E (?aM .LtE) (?q (i<=j)):=?a03 wJ le_int
def cC:?a0E (?aM .Gt) (?q (j<i)):=?a03 wJ gt_int
def Ay2:?a0E (?aM .GtE) (?q (j<=i)):=?a03 wJ ge_int
def Ac9:P9 X (?aM .Is) (λx y H Q=>y=?u/\?a07 (?q (x=?u))):=by
 ext dC;let#[rfl,q]:=h;cases ry;apply is_none_gen (Cr I q ?_)
 cases x<;>first
  | (cases rx;rfl)
  | (ext hF;rfl)
def Bk(b:Expr){op:CmpOp}(h:?SL:=by decide)(h2:?LK:=by decide):?pZ:=by
 ext X5
 ext X1
 cases b<;>simp[behindInMarks,e1,e2]
def Kv{op:CmpOp}{r:R2}[?E3][?fS][?ZI]:?a1F (?nZ a [op] [b] pos) ?qV:=by
 ext V;exact wpAny_Compare1 (?a08 u) hm
inductive UJ[?k6](x:V)(H':Hp):Prop
 | mk:∀k,(x=?p5)->(Q k H')->?MH
abbrev At7(t:TE):TT:=λσ H Q=>t σ H λx H'=>?MH
def Bf{op:CmpOp}{r:R2}[?E3][?fS][?ZI]:?a47 At7 ?qV:=by
 ext V
 apply ?TZ (Dz ?lP λv s1 ?j4=>Dz (?ZS hb _) λu s2 ?q0 =>
  Dz (?a2F _) λc s3 ?L8=>?_) hm
 subst e;cases r3;exact qk2 ?OR
inductive MV(r':R2)(tc:TE)(σ:St)(Q:VK)(y:V)(z:V)(H3:Hp):Prop
 | mk:∀k,(z=?p5)->((if ?a4N k then tc σ H3 λw' H4=>r' y w' H4 Q else Q (?p6) H3))->?NM
abbrev Aa6(r r':R2)(ta tb tc:TE):TE:=λσ H Q=>ta σ H λx H1=>tb σ H1 λy H2=>r x y H2 λz H3=>?NM
def RK{op op':CmpOp}{r r':R2}[?E3](ho':P9 X (?aM op') r')[?fS](hc:?a1F c tc)
 (hm:lastMarks ?LD ?rR=false:=by with_unfolding_all rfl):?a1F (?nZ a ?LD ?rR pos) (Aa6 r r' ta tb tc):=by
 ext V
 apply Compare_chain (Dz ?lP λv s1 ?j4=>chain_link (Dz (?ZS hb _) λu s2 ?q0 =>
  Dz (?a2F _) λd s3 ?L8=>?_)) hm
 subst e;cases r3;apply qk2 ?_;cases k with
 | false=>exact ite_ff #[?p6,H3,I3,rfl,q3]
 | true=>exact ite_tt (chain_last (Dz (hc Ae s3 σ H3 _ I3 q3) λw' s4 #[z',H4,I4,r4,q4]=>ho' Ae s4 σ H4 y z' u w' Q I4 r2 r4 q4))
def EF:?B1<?iP:=?QK
def Ul{x:V}[?R](r:?SP):?N4:=by
 cases r with
 | cons r1 r2=>cases r2;exact#[_,rfl,r1]
def Ze{x y:V}[?R](r:?P [x,y] us):∃u w',us=[u,w']/\?cB/\?c3 y w':=by
 cases r with
 | cons r1 r2 =>
   cases r2 with
   | cons r3 r4=>cases r4;exact#[_,_,rfl,r1,r3]
def cZ[?cF]:?a0U "max" (?a4G (if j > i then j else i)):=by
 ext fQ;ext XO;apply max_two_ints ?e8 ?K9
 by_cases hj:j > i
 . rw[?oA,?oA];exact ?bV
 . rw[?q4,?q4];exact ?bV
def PR[?cF]:?a0U "min" (?a4G (if j<i then j else i)):=by
 ext fQ;ext XO;apply min_two_ints ?e8 ?K9
 by_cases hj:j<i
 . rw[?oA,?oA];exact ?bV
 . rw[?q4,?q4];exact ?bV
universe e9
structure lF[?dK](x dx C:Addr)(mA:?eX):Prop where
 obj:?d5 x=?c (?oM C dx)
 ns:?zQ
 ne:?xJ
def OH[?aQ]{dx:Addr}[?EA](n:?zQ):∃od,?d5 dx=?c od/\?JK:=by
 let#[o,es,ep,ho,hd,hk,_,hm]:=n;apply#[o,ho,λname=>?_];have e:=hm ?a2;unfold nsFind findBy at e;rw[←Array.find?_toList]at e;unfold PySem.W.lookIn;rw[hd];dsimp only;split
 . rename_i y q
   rw[q]at e;exact ?VV
 . rename_i q
   rw[q]at e
   have a:?UM (·.refKey)=false:=by
    rw[List.any_eq_false];intro y hy;let#[z,t,hkey]:=hk y (Array.mem_toList_iff.mp hy);simp[DictEntry.refKey,hkey]
   have a':¬?UM (·.refKey)=true:=by rw[a];exact qe3
   rw[?v a'];exact ?VV
def lF.look[?aQ]{x dx C:Addr}[?EA](I:lF h x dx C mA):∃od,PySem.W.InstAt h x (?oM C dx) C (?c od)/\?JK :=
 let #[od,ho,hl]:=OH I.ns
 #[od,#[I.obj,rfl,rfl,ho],hl]
section
variable[?k3][?E][?a3][?b1][?aH]{x dx C f:Addr}[?EA]{name:Str}[?hO]
def XF{expr:Bool}[?dD][?XI][?ZC]
 (ha:?H4=?kR) (hv:?zK=?L) (hv':?FY v=true) (h:Q v ?i8) :
 ?ZU ?bI (?xX ?j8 ?a2 expr):=by
 let ?vB:=I.look;exact PySem.W.get_value X J (qv9 hg).1 (PySem.W.findObj_own hh ha rfl (by rw[hl,hv])) hv' h
def tP[?YN][?XI]
 (hf:?H4=?r8) (ht:?BN) (hv:?zK=none) (h:Q (?l f,[?l x]) s) :
 ?ZU ?bI (?yL ?j8 ?a2 pl):=by
 let ?vB:=I.look;exact PySem.W.method_fn X J (qv9 hg).1 (qv9 hg).2 hf (qx3.mp ht) (by show(?H0).map (·.isSome)=?c ?cT;rw[hl,hv];rfl) h
def VN{ns:?J}[?nL](X:?mY)(I:?KT)
 (hs:?a0W K) (hp:?OU) (ht:?GE K C ?a2=?kR) [?ZC]
 (hw:?B6 mA ns) (hsz:?GG)
 (h:∀h',lF h' x dx C (λy=>if y=name then ?L else mA y)->?n6 dx ?t h'->Q () { s with heap:=h',toks:=s.toks+2 }) :
 ?ZU ?bI (setAttr ?j8 ?a2 v):=by
 let ?vB:=I.look;apply PySem.W.set_plain X J hs (PySem.W.osa_open (s:=?i8) (r:=none) X J hp ht λb=>?_);let#[cd,hc,hd']:=PySem.W.any_some hh;have hx:?aU x=?c #[?t1,?c dx,.plain,#v[]]:=I.obj;apply ?a2L qb9 (qa6 (wpAny_loadPart hx (qa6 (PySem.W.Looks.here (s:=?i8) (PySem.W.looks_clsIn X hc) ?_))));rw[hd'];apply qb9 (a:=?c dx) (?a2L qb9 ?_);apply wpAny_nsSet1 (s:=?i8) I.ns λh' hn2 hs2=>?_;let#[oD,esD,epD,hoD,hdD,hcD]:=hn2.count (PySem.Within.cons ?a2 v hw);apply qa6 (wpAny_lookBehind hoD (by rw[hdD];exact pastItsLine_dict (qa5 hcD (by rw[qd6];omega))) ?_);exact qb9 (h _ #[(hs2.2 _ (?n1 I.ne)).trans I.obj,hn2,I.ne] hs2)
def SN{R:?yJ}[?nP][?u1](X:?mY)(hm:?RM)
 (hi:?a1E "__init__"=?r8) (hf:PySem.W.typeIn K ?cA=?c (?aF "function"))
 (h:?gQ ?bI (?a3J vs) (?sL ?cA #[?l ?bG::vs,kw]) (PySem.W.InitBack ?bG R)
   ?HT) :
 ?gQ ?bI A (?sL ?bL #[vs,kw]) R s:=by
 let#[hh,g,d,t,os]:=s;exact PySem.W.make_core (PySem.W.makes_of X hm) (PySem.W.looks_findIn X hi) (λself=>PySem.W.bind_fn X self hf) ?dZ h
universe e9
abbrev putF(f:Str)(v:V):?dT->?dT
 | []=>[(f,v)]
 | (g,x)::r=>if g=f then(g,v)::r else(g,x)::?JC
def As(f g:Str)(v:V):∀fs:?dT,(?xB).lookup g=if g=f then ?L else ?qB g
 | []=>by
   show List.lookup g [(f,v)]=_;by_cases h:g=f
   . have hb:?a4N (g==f):=qx3.mpr h;simp only[List.lookup,hb,?pP]
   . have hb:?a2W g f:=qk8.mpr h;simp only[List.lookup,hb,?v h]
 | ?sD=>by
   have ih:=As f g v r;ext D8
   . rw[?j1];by_cases h:g=k
     . have hb:?ST:=qx3.mpr h;simp only[List.lookup,hb,?D (h.trans hk)]
     . have hb:?LG:=qk8.mpr h;simp only[List.lookup,hb,?v (λe:g=f=>h (e.trans hk.symm))]
   . rw[?h4];by_cases h:g=k
     . have hb:?ST:=qx3.mpr h;simp only[List.lookup,hb,?v (λe:g=f=>hk (h.symm.trans e))]
     . have hb:?LG:=qk8.mpr h;simp only[List.lookup,hb];exact ih
def W4(f:Str)(v:V):∀fs:?dT,f∈?OP (·.1)/\∀g,g∈?pA (·.1)->g∈?OP (·.1)
 | []=>#[?T9,λg h=>?f8]
 | ?sD=>by
   let#[i1,i2]:=W4 f v r;ext D8
   . rw[?j1];subst hk;exact#[?a0,λg h=>?CZ]
   . rw[?h4];apply#[?_,λg h=>?_]
     . rw[qc8];exact qb6 _ i1
     . rw[qc8]at h ⊢;ext nH
       . exact qd9.mpr (?j e)
       . exact qb6 _ (i2 g e)
def Ca(f:Str)(v:V):∀fs:?dT,(?xB).length<=fs.length+1
 | []=>?T9
 | ?sD=>by
   have ih:=Ca f v r;ext D8
   . rw[?j1,qd6,qd6];omega
   . rw[?h4,qd6,qd6];omega
def Oi.some_of{v:V}{o:?mK}(r:Oi ?lQ o):∃u,o=?U/\?d4:=by
 cases o with
 | none=>exact ?GJ
 | some u=>exact#[u,rfl,r]
def Oi.none_of{o:?mK}(r:Oi ?a5 o):o=none:=by
 cases o with
 | none=>rfl
 | some u=>exact ?GJ
def oW{v:V}[?aI][?g0]:?FY u=true:=by
 cases v with
 | non=>cases (?a0N ?rX);rfl
 | bl b=>cases (?a0N ?sZ);rfl
 | int i=>let ?iQ:=(?a0N ?UT);cases e;rfl
 | str x=>let ?iQ:=(?a0N ?VR);cases e;rfl
 | byt b=>let ?iQ:=(?a0N ?KS);cases e;rfl
 | flt b=>let ?iQ:=(?a0N ?GX);cases e;rfl
 | ref a=>cases (?a0N ?n5);rfl
 | ty n=>cases (show u=Value.type n from r);rfl
section
variable[?u4][?eF]{h h':Heap}{a C dx:Addr}{fs fs':?dT}
def EN(hok:?xR)(e:H a=?p0):∃mA,lF h a dx C mA/\(?wU)/\?B6 mA (?pA (·.1))/\?RR/\?VA:=by
 let#[d,z,ne,ob,mA,n,r,q]:=(show ?c8 P w H h a (?zC) from hok a _ e)
 exact#[mA,#[ob,n,ne],r,q,z,d]
universe e9
structure Cls[?d][?eG]:Prop where
 pg:?v6 K C Str.empty=true
 hd:?RL
 po:?OU
 sa:?a0W K
def Cls.get[?aH]{C:Addr}(c:Cls K C)(f:Str):?v6 K C f=true:=c.pg
abbrev Dy[?d][?eG](f:Str):Prop:=?a1E f=?kR
def Dy.taker[?aH]{C:Addr}{f:Str}(n:?vC):?GE K C f=?kR:=by
 unfold PySem.W.takerIn;rw[show ?a1E f=?kR from n];rfl
structure uI[?d][?eG](m:Str)(f:Addr):Prop where
 at_:?a1E m=?r8
 fn:?BN
 kp:?pG
section
variable{X:Cx}[?B]{a C dx:Addr}{fs:?dT}{f:Str}{v:V}[?E][?a3]
def KD{b:Bool}[?dD][?f][?DP](n:?VS)(l:?K1)
 (h:∀u s',?ZR H s'->?d4->Q u s'):?ZU ?k (?xX ?bF f b):=by
 let ?RW:=?xF;let ?j0:=Oi.some_of (v:=v) (o:=mA f) (by rw[←l];exact r f);exact XF ?b7 O (c.get f) c.hd n hu (oW ru) (h u _ (?gY) ru)
def T9{m:Str}{g:Addr}[?YN][?f][?DP](k:?FU)(l:?w4)
 (h:Q (?l g,?e3) s):?ZU ?k (?yL ?bF m pl):=by
 let ?RW:=?xF;have hn:mA m=none:=Oi.none_of (by rw[←l];exact r m);exact tP ?b7 O (c.get m) k.at_ k.fn hn h
def jD{y:V}[?aI][?nL][?f][?DP](n:?VS)(hl:?H6)(ry:?m7)
 (h:∀s',?ZR (upd H a (.ins C dx (?D0))) s'->?y5):?ZU ?k (setAttr ?bF f u):=by
 let#[mA,O,r,wi,_,ho]:=?xF;have hz:(?pA (·.1)).length<=sizeLine:=by rw[qa4,sizeLine_eq];omega
 apply VN ?b7 O c.sa c.po n.taker c.hd wi hz λh' O' sb=>h _ ?_;have hd:∃o,?gO dx=?n:=let #[o,_,_,e',_]:=O'.ns;#[o,e']
 apply ?yG (x:=a) (e:=dx) (by rw[e];exact True.intro) (?i ho) (λb q hb z=>?T6 z) hd ?_;apply#[by rw[Al O.ne];exact ho,?_,O.ne,O'.obj,_,O'.ns,λg=>?_,λg hg=>?_]
 . have:=Ca f y fs;omega
 . show Oi ((?D0).lookup g) (if g=f then ?U else mA g);rw[As];by_cases q:g=f
   . rw[?D q,?D q];exact ry
   . rw[?v q,?v q];exact r g
 . by_cases q:g=f
   . rw[q];exact(?J6).1
   . apply(?J6).2 g (wi g λz=>hg ?_);show(if g=f then ?U else mA g)=none;rw[?v q];exact z
def Bn.made[?f]:Bn X Ae σ (upd (?a06 ?s (.own ?bG)) ?bG (?MC))
 ?HT:=by
 have e1:(?l4).get? ?s=?c ?xO:=qc4 ?t rfl
 have e2:(?O7).get? ?bG=?c (?vO):=by
  have:=qc4 (?l4) (o:=?vO) rfl
  rwa [qi2]at this
 have e3:(?l4).Ns ?s (?h0):=#[?xO,#v[],_,e1,rfl,(λe he=>?w he ?G),λ_=>rfl]
 have I1:=?jL (a:=s.heap.objs.size) (o:=.own ?bG) (h':=?l4) (t':=s.toks) (λb u q=>?m1) ?a8 #[_,e1];apply ?zW (a:=?fF) (o:=?MC) (t':=s.toks) (λb u q=>?m1) (ql9 (qi2 _ _)) ?_;have ne:s.heap.objs.size≠?fF:=qe2 (?a37 _);apply#[by rw[Al ne,Ab],?lC,ne,e2,?h0,(Heap.Ns1.of_empty e3).at λo q=>?m1,λ_=>True.intro,λy hy=>?w rfl hy]
def XR[?k3]{env:Env}{e:Expr}{f:Str}[?a4][?b1][?dD](hb:?y1 e f env (?vR)=?vR)
 (h:?e ?bI A (?vR) (λo s₁=>?e ?bI A (?xX o f ?cW) Q E ?iA) E s):?ZU ?bI (?aT (?cJ e f pos) env) :=
 Attribute_any_ h (by rw[arm_eval_Attribute,hb])
universe e9
inductive ItFld[?d](f:Str)[?k7]:Prop
 | mk:∀a C dx fs v,?d3->(?C3)->(Cls K C)->(?vC)->(?K1)->(Q v H1)->?PY
abbrev Au1[?d](ta:TE)(f:Str):TE:=?ZQ ta ?PY
inductive ZK[?d](f:Str)(D:Ends)(σ:St)(y:V)(x:V)(H2:Hp):Prop
 | mk:∀a C dx fs,?d3->(H2 a=?p0)->(Cls K C)->(?vC)->(?H6)->(?iU σ (upd H2 a (.ins C dx (?D0))))->?IU
abbrev Av3[?d](ta tv:TE)(f:Str):TS:=λD σ H=>tv σ H λy H1=>ta σ H1 λx H2=>?IU
section
variable{X:Cx}{o e value:Expr}{f:Str}{pos pos' tpos:Pos}{ta tv:TE}
def Ac6(he:?a1F e ta)(hb:?y1 e f ?h (?jK)=?jK):?a1F (?cJ e f pos) (Au1 X.K ta f):=by
 ext V;apply XR hb (Dz ?gS ?t0);let(?a3C v n):=_z;subst ex;obtain rfl:?n5:=rx;exact KD I1 ea c n l λu' s2 I2 ru=>#[v,H1,I2,ru,q]
def Ac1(ha:?UK)(hv:?a1F ?p8 tv)(hs:?pR ?p8 (?c (?P1)) ?oO ?h=?sB):PS X (?sO [?P1] ?p8 pos) (Av3 X.K ta tv f):=by
 ext hC;apply plainObj_wpAny_Assign_Attribute (Dz (?ZT hv h) λu s1 #[y,H1,I1,ry,q]=>Dz (ha Ae s1 σ H1 _ I1 q) λov s2 _z=>?_) hs;let#[x,H2,I2,rx,a,C,dx,fs,ex,ea,c,n,l,q2]:=_z;subst ex;obtain rfl:ov=?gT a:=rx;exact jD I2 ea c n l ry λs3 I3=>#[σ,_,I3,q2]
universe e9
section
variable{X:Cx}[?B][?E][?a3][?dD]{c:Value}{b:Bool}
universe e9
structure Hk(k:Nat)[?kE]:Prop where
 hd:?M9
 dp:A.depth+3*k+5<recursionLimit
 un:A.units+16*k+200<cLine
 gd:A.guards=?c []
def Hk.mono{j k:Nat}[?E](r:?mD)(h:j<=k):Hk j A:=#[r.hd,?P0,?PS,r.gd]
def Hk.deeper{k:Nat}[?E](r:?JV)(env:Env):Hk k (?o8 env) :=
 #[r.hd,by have:=r.dp;show ?M6+3*k+5<_;omega,by have:=r.un;show A.units+3+16*k+200<_;omega,r.gd]
def JV[?E]{C:Addr}[?R][?u1]:(?mF).depth=?M6:=by
 ext WN
def HF[?E]{C:Addr}[?R][?u1]:(?mF).guards=A.guards:=by
 ext WN
def jV[?E]{C:Addr}[?R][?u1]:(?mF).units=?TO:=by
 first | rfl | simp[Around.under,Code.cUnits,Code.frames,Code.isFrame]
def Hk.make{k:Nat}[?E](r:?JV)[?eG][?dE](kw:?jG):Hk k (?mF) :=
 #[r.hd,by have:=r.dp;rw[JV];omega,by have:=r.un;rw[jV];omega,by rw[HF];exact r.gd]
def Hk.depth{k:Nat}[?E](r:?mD):A.depth<recursionLimit:=?P0
def Hk.units{k:Nat}[?E](r:?mD):?a2P 64:=?PS
def Hk.u8{k:Nat}[?E](h:?mD):?a2P 8:=by
 have:=h.units;omega
abbrev Aa1:TA:=?a2Y []
abbrev Au5(ta:TE)(tr:TA):TA:=λσ H Q=>ta σ H λx H1=>tr σ H1 λxs H2=>Q (?mR) H2
section
variable{X:Cx}{e:Expr}[?aC]{te:TE}{t:TA}[?a4]
def Ad:PA X [] Aa1:=λ_ _ _ _ H Q I h=>Calls.spliced_nil #[[],H,I,?A,h]
def Aa(ha:?x3)(hr:?BI)[?DC]:PA X ?d6 (Au5 te t):=by
 intro pos Ae s σ H Q I h;rw[hs];show ?a18 (spliced (?FM::?yE));apply qq3 (Dz ?lP ?t0);ext bP;exact Dz (hr pos Ae s1 σ H1 _ I1 q1) λus s2 #[xs,H2,I2,r2,q2]=>#[?mR,H2,I2,?H r1 r2,q2]
structure A96(Q:VK)[?a9](H1:Hp):Prop where
 mk::(left:?eV) (right:?a41 ?qQ)
abbrev Bi5(t:TA):TE:=?a2J A96
structure A97(Q:VK)[?a9](H1:Hp):Prop where
 mk::(left:?eV) (right:?a41 ?kG)
abbrev Bi9(t:TA):TE:=?a2J A97
def Es{x1}(h:?BI):?a1F (?pI es x1 pos) (Bi5 t):=by
 intro Ae s σ H Q I hq;apply ?a01 wpAny_Tuple_spliced;ext XQ;apply(?a2X ?qQ);exact#[z,us,r,?LM]
def Gz(h:?BI):?a1F (.List es pos) (Bi9 t):=by
 intro Ae s σ H Q I hq;apply ?a01 wpAny_List_spliced;ext XQ;apply(?a2X ?kG);exact#[z,us,0,r,?gU]
universe e9
noncomputable abbrev Sp:=?o->Hp->?ZX VK XK
noncomputable abbrev UU:=?cO->Hp->Shared->XK->?h2
structure lH[?fV][?d][?nE][?kE][?nO][?dH](H:Hp):Prop where
 frames:A.frames=?c ?a6
 mod:Mod K mg ?aX
 bs:∀b o,base.get? b=?n->?SC
 bsz:base.objs.size<=s.heap.objs.size
 funs:?s9 ?aX ?a6
 frf:∀b∈QG ?a6,?Z
 hok:S9 P w H ?t
 bare:?KA
abbrev CE[?nO][?fV](H:Hp)[?dH](Q:VK)[?eE][?dG]:Prop :=
 ∃v H',?yO/\?qA/\Un (QG ?a6) [] H H' ?t ?fH/\S9 P w H' ?fH/\?d4/\?n2
abbrev CR(CX:UU)[?nO][?fV](H:Hp)[?dH](Q:VK)(E:XK)(r:Result)[?dG]:Prop :=
 match r with
 | .ok (.ret u)=>?H2
 | .ok _=>False
 | .error e=>CX ?a6 H s E e s'
structure Bv[?fV][?d][?nE](CX:UU)(k:Nat)(f:Addr)(fd:FuncData)(ps:?J)(sp:Sp):Prop where
 len:?AN
 run:∀[?kE] [?nO] [?dH] (H:Hp) (args:Args) [?dE] [?eB] (Q:VK) (E:XK),?mD->?CM->?CP s fd ?cL ?kI->?g9->?l0 →
  ?gQ ?g2 A (?sL ?cA ?cL) (CR CX ?a6 P w H s Q E) s
def lH.make[?cE][?nF][?E]{outer:?cO}[?b1]{H:Hp}(e:?CM)[?eG][?dE](kw:?jG) :
 lH P w K mg ?aX (?mF) ?a6 s H:=#[by first | exact e.frames | (simpa[Around.under,Code.envs,Code.isFrame,pushEnvs]using e.frames),e.mod,e.bs,e.bsz,e.funs,e.frf,e.hok,e.bare]
section
variable[?uI][?nV]{s s':Shared}
def Bn.env0[?f]:lH ?aN X.w X.K ?eJ ?dM X.A ?gI s H :=
 #[I.ok.frames,I.ok.mod,I.bs,?JS,I.stack,I.stkFree,?b8,?bY]
def Bn.after{Q:VK}[?aI][?f](h:CE ?gI ?aN X.w H s Q u s'):?H9:=by
 let#[v,H',os,bare,un,hok,r,q]:=h;let#[hh,g,d,t,os']:=s';obtain rfl:os'=s.os:=os;exact#[v,H',I.call (h':=hh) (g':=g) (d':=d) (t':=t) (ch:=[]) un hok bare (λb z=>?w z ?G),r,q]
universe e9
abbrev tCall[?u0](t:TA):TE:=λσ H Q=>t σ H λvs H1=>sp ?gJ H1 Q E
inductive uL[?eG](m:Str)[?u0](t:TA)(σ:St)[?k7]:Prop
 | mk:∀a dx fs,?d3->(?C3)->(?w4)->(t σ H1 λvs H2=>sp (x::?gJ) H2 Q E)->?KZ
abbrev lO[?eG](m:Str)[?u0](ta:TE)(t:TA):TE:=?ZQ ta ?KZ
abbrev yE[?eG][?u0](t:TA):TE:=λσ H Q=>t σ H λvs H1=>∀x dx,H1 x=none->H1 dx=none->?xJ →
 ?a04 H1
abbrev Om[?d](fd:FuncData)(ps:?J)(ds:?y):Prop :=
 ∀[?dH] [?dE],?mY->?VU->?CP s fd ?CC (ps.zip (us++ds))
def Om.all[?aH][?E4](h:∀us:?y,?U0->?JF fd ?CC=?T ?kI):?wZ:=λs us _ hl=>by
 rw[List.append_nil]at hl ⊢;exact .of_eq (h us hl)
abbrev Ui(CX:UU)(X:Cx)(E:XK):Prop:=∀(Ae:Bm) (σ:St) (H:Hp) [?dH] (e:Value) [?dG],?C->CX ?gI H s E e s'->?m e s'
section
variable[?ZH][?E4]{sp:Sp}{dvs:?o}{ds:?y}{E:XK}{x m:Str}{p pos apos:Pos}{e o:Expr}[?aC]{ta:TE}{t:TA}
def DS[?B]{Q:VK}[?R][?g1][?jT][?nT][?nB]
 [?f] [?uF] (h:sp ?gJ H Q E):?ZL (call ?cA us) ?b3:=by
 have r2:?P ?gJ (us++ds):=?v3 hd;have hl:?VU:=by rw[←r2.length];exact F.len _ _ _ _ h
 apply wpAny_call (codeAny_mono (F.run X.A X.stack s H #[us,[]] (us++ds) (vs++dvs) Q E hr I.env0 (hb s us I.kIn hl) r2 h) λr s' hq=>?_);cases r with
 | error e=>exact hx Ae σ H s e s' I hq
 | ok fl =>
   cases fl with
   | ret u=>exact I.after hq
   | next=>exact ?wQ
   | brk=>exact ?wQ
   | cont=>exact ?wQ
def WE[?jT][?nT][?nY](hm:?lS=?x4)(hk:?vP X.K ?cA=true)[?nB]
 [?k5] [?nC] [?n7] (hpl:?iJ (·.1)=false:=by rfl) :
 PE X ?rQ (tCall sp dvs E t):=by
 ext V;apply qu1 (Y7 I hg hm ?_ hdb);apply ?ZW hk;exact DS F hr hb hd hx I1 r q
def wC[?Y2][?jT][?nT][?nB][?k5]
 (hst:?vQ:=by rfl) (hpl:?iJ (·.1)=false:=by rfl)
 (ht:?a4F (?a05 o ?d6)=(do
   let ov ←?mA
   ?yR
   let ?A7 ←?xZ
   ?a0Z (?wV)):=by rfl) :
 ?a4H ?d6 t:=by
 ext V;ext WG;apply qs4 (first:=?e3) (h₀:=X.base) ?wH hm.kp (Dz (ha pos Ae s1 σ H1 _ I1 q) λus s2 #[vs,H2,I2,r,q2]=>#[I2.kIn,?_]) hst hpl;exact DS (us:=?aD::us) (vs:=?aD::vs) F hr hb hd hx I2 (?H rfl r) q2
def RJ[?Y2][?jT][?nT][?nB]
 (ht:?a4F (?a05 o [])=(do
   let ov ←?mA
   ?yR
   let ?A7 ←?xZ
   ?a0Z (?eU [] ?h)):=by rfl) :
 ?a4H [] Aa1:=by
 ext V;ext WG;exact PySem.W.callWith_K0 (first:=?e3) I1.kIn hm.kp (DS (us:=?e3) (vs:=?e3) F hr hb hd hx I1 (?H rfl ?A) q)
structure Mk[?d](C f:Addr):Prop where
 makes:?RM
 init:?a1E "__init__"=?r8
 fn:?BN
 kp:?vP K ?bL=true
def qZ[?B]{Q:VK}[?R][?g1](M:?PJ)[?jT](hr:?R7)(hb:?JZ)(hd:?PG)
 (hx:?SE) [?f] [?uF]
 (h:∀x dx,?a2O x->?a2O dx->?xJ->?a04 H) :
 ?ZL (call ?bL us) ?b3:=by
 have hq:=h ?bG ?s (?jD (?sA)) ?kS (qe2 (?a37 _));have I2:=Bn.made (C:=C) I;have r2:?P (?NR::?gJ) (?gT ?bG::(us++ds)):=?H rfl (?v3 hd)
 have hl:(?CD++ds).length=ps.length:=by
  have e:=r2.length;rw[F.len _ _ _ _ hq]at e;exact e.symm
 apply wpAny_call (SN (f:=f) ?b7 M.makes M.init (qx3.mp M.fn) (codeAny_mono (F.run _ ?gI _ _ #[?CD,[]] (?gT ?bG::(us++ds)) _ _ E (hr.make C us [])
  (I2.env0.make C us []) (hb _ (?CD) I2.kIn hl) r2 hq) λr s' hq'=>?_))
 cases r with
 | error e=>exact hx Ae σ _ _ e s' I2 hq'
 | ok fl =>
   cases fl with
   | ret u =>
     let#[v,H',I3,rv,ev,q3]:=I2.after hq';subst ev;exact#[rv,#[?NR,H',I3,rfl,q3]]
   | next=>exact ?C2
   | brk=>exact ?C2
   | cont=>exact ?C2
def WC(M:?PJ)[?jT](hr:?R7)[?nY](hm:?lS=?c ?bL)[?nB]
 [?k5] [?nC] [?n7] (hpl:?iJ (·.1)=false:=by rfl) :
 ?a1F ?rQ (yE C sp dvs E t):=by
 ext V;apply qu1 (Y7 I hg hm ?_ hdb);apply ?ZW M.kp;exact qZ M F hr hb hd hx I1 r q
universe e9
section
variable[?ZH]{fd:FuncData}{ps ks:?J}{sp:Sp}{E:XK}{x m:Str}{p pos apos kpos:Pos}{e o:Expr}[?aC]{kws:?l3}{te ta:TE}{t tk:TA}{nm:?bD Str}
variable{g:?y->?y->?y}{gV:?o->?o->?o}
universe e9
structure FnScope(N P:?J)(sc:Scope):Prop where
 kind:?q8
 co:?EU
 gen:?UB
 nd:N.Nodup
 pre:N.take P.length=P
 par:?M2
 nofree:?Q7
def DC[?tO]:?a0L ?mC
 | [],_,_=>rfl
 | ?KM,m,h=>by
   unfold bindL;rw[DC ?PF];split
   . have:x≠n:=?HJ
     simp[this]
   . rfl
def Bi{N P:?J}{sc:Scope}(h1:?q8:=by exact rfl)(h2:?EU:=by exact rfl)(h3:?UB:=by exact rfl)(h4:N.Nodup:=by ext aP)(h5:N.take P.length=P:=by exact rfl)
 (h6:?M2:=by ext aP) (h7:?Q7:=by ext aP):?A5 N P sc:=#[h1,h2,h3,h4,h5,h6,h7]
def DE[?tO]:?a0L ?kK
 | [],_,_=>rfl
 | ?KM,m,h=>by
   unfold bindC;rw[DE ?PF];split
   . rfl
   . have:x≠n:=?HJ
     simp[this]
def dD[?tO][?hO]:∀{P:?J}[?nP]{i:Nat}[?nN],P.Nodup->?IO->?l5->?cM x=?dW →
 ?mC ?cM (?CU) m x=?L
 | [],_,_,_,_,h,_,_=>?f8
 | ?d8,[],_,_,_,_,h,_=>?f8
 | p::P,?pO,0,m,nd,h1,h2,hk=>by
   simp at h1 h2;subst h1;subst h2;show ?a49 ?mC p;unfold bindL;rw[DC ?KI,?j1];simp
 | p::P,?pO,i+1,m,nd,h1,h2,hk=>by
   show ?a49 ?mC x;unfold bindL;exact ?a2C dD
def dF[?tO][?hO]:∀{P:?J}[?nP]{i:Nat}[?nN],P.Nodup->?IO->?l5->?cM x≠?dW →
 ?kK ?cM (?CU) m x=?L
 | [],_,_,_,_,h,_,_=>?f8
 | ?d8,[],_,_,_,_,h,_=>?f8
 | p::P,?pO,0,m,nd,h1,h2,hk=>by
   simp at h1 h2;subst h1;subst h2;show ?a49 ?kK p;unfold bindC;rw[DE ?KI,?h4];simp
 | p::P,?pO,i+1,m,nd,h1,h2,hk=>by
   show ?a49 ?kK x;unfold bindC;exact ?a2C dF
abbrev start(N:?J)[?eB]:St:=vs.map ?c++?c2 (N.length-vs.length) ?a5
abbrev kU(CX:UU)[?fV][?d][?nE](N:?J)(qual:Str)(scope:Scope)(f:Addr)(cd:Value)[?kE][?nO][?dH](H:Hp)(E:XK):Cx where
 prog:=P
 w:=w
 K:=K
 mg:=mg
 base:=base
 A:=?MJ
 N:=N
 s₀:=s
 H₀:=H
 env:=?lW
 outer:=outer
 stack:=?lW::outer
 ex:=[]
 calm:=true
 fn:=λ_=>true
 pn:=[]
 xe:=λe s'=>?e ?g2 (?MJ) (leaving (?lW) e) (λ_ s''=>CX ?a6 H s E e s'') (λe' s''=>CX ?a6 H s E e' s'') s'
def iI{sc:Scope}{n:Nat}{x:Str}(h:?vZ):∃c,(?FE n ?iW []).lookup x=?bM:=by
 have q:=?GP ?iW n [] (?j h);exact Option.isSome_iff_exists.mp q
def OO{CX:UU}[?cE][?nF]{N ps:?J}[?Z2][?E]{outer:?cO}{s s1:Shared}{H:Hp}{E:XK}[?R][?g1]
 (S:?NQ) (hd:?M9) (e0:?CM) (hl:?JJ) [?uF]
 (x:InCallC s ?s (?mC ?MQ ?kI ?h0) (?GW) (?kK ?MQ ?kI ?h0) s1) :
 Bn (?NA) [] ?o3 H s1:=by
 have hpl:ps.length<=N.length:=by have:=?cK ?NO S.pre;rw[qd5]at this;omega
 let#[h1,tk,rfl,hk]:=x.done;have noA:∀b:Addr,b ∉ (?NA).ex:=λb z=>?RJ
 apply#[#[e0.mod,S.kind,rfl,rfl,?dS,λy z c h1 h2=>?_,λy hy=>?_,λy c _ h=>?_,λ_=>hd,Around.frames_deeper e0.frames,?i ?FX,?UE,e0.bs,e0.bsz,λb _ _=>noA b,?UE,e0.funs,e0.frf],
  rfl,e0.bare,?C9 hk,#[_,x.toInCall.ns,λi y v h1 h2 h3=>?_],λy c h=>#[_,x.cell y c h],?LN ?a8,λy c h=>?_,λp hp=>?w (show p∈([]:Bm) from hp) ?G,e0.hok.kept hk,?_]
 . exact name_of_addr x.apart (qo1 h1) (qo1 h2)
 . have hy:?lR y=?aZ\/?lR y=?cZ:=hy;rcases hy with hy | hy
   . exact iI hy
   . exact ?w rfl (S.nofree _ (qo1 hy))
 . exact qe5 (x.above y c (qo1 h))
 . have hi:?wC:=by
    unfold start at h2;by_cases hi:?wC
    . exact hi
    . rw[qd1 (by simpa using hi)]at h2;rw[qt7]at h2;split at h2<;>cases h2
   have ha:?l5:=by
    unfold start at h2;rw[qc9 (by simpa using hi),qb0]at h2;cases e:vs[i]? with
    | none=>rw[e]at h2;cases h2
    | some a=>rw[e]at h2;cases h2;rfl
   let#[u,hu,rv]:=?j6 ha
   have hp:ps[i]?=?lA:=by
    rw[←S.pre,List.getElem?_take_of_lt ?X];exact h1
   have ndP:ps.Nodup:=by rw[←S.pre];exact S.nd.sublist (List.take_sublist _ _)
   apply#[u,rv,?_];rcases S.par y (qb1 hp) with k | k
   . exact ?j #[k,dD ndP hp hu k]
   . let#[c,e]:=iI (n:=?fF) k;apply ?i #[?j k,c,e,?_];have q:=x.cell y c e;rw[dF ndP hp hu (by show ?lR y≠_;rw[k];decide)]at q;exact q
 . exact ?LN (qe5 (x.above y c (qo1 h)))
 . unfold start;show _=N.length;rw[qc6,qa4,qj9];omega
def A64{CX:UU}[?cE][?nF]{k:Nat}{f:Addr}{name qual:Str}{params:Arguments}{body:?fA}{scope:Scope}{dV kV doc pm Dr ct oc:Value}{an od:OAddr}
 {osl:Td}{N ps:?J}{sp:Sp} (lk:?a12 (?a4C ct)) (hcd:?BT) (S:?NQ)
 [?YL]
 (hbody:∀[?DD],?a3I ?e2->?l0 →
   ∃t,MU (?ZP Dr) ?h5 t/\?IB) :
 Bv P w K mg ?aX CX ?jO f (?a4C ct) ps sp:=by
 apply#[len,λA outer s H args us vs Q E hr e0 hb r mH=>?_];have hl:=len _ _ _ _ mH;have KX:?mY:=e0.mod.kin.keeps ?QA;have lim:s.heap.NoLimit:=e0.mod.nolimit.keeps ?QA
 have hkind:∀y∈ps.zip us,?lR y.1=?dW\/(?lR y.1=?aZ/\((?GW).lookup y.1).isSome=true):=λ#[n,v] hy=>by
  rcases S.par n (qr6 hy).1 with q | q
  . exact ?j q
  . exact ?i #[q,?GP _ _ _ (?j q)]
 apply codeAny_call_function hr.depth (KX _ _ lk) rfl S.co S.gen rfl (PySem.W.codeRec_of KX hcd) (hb _ _ _ _ ?_);apply wpAny_newFunctionEnv_cells S.kind hkind λenv he s1 x=>?_;subst he;apply#[lim.keeps x.toInCall.keep,codeAny_func ?_];let#[t,ht,hq]:=hbody A ?a6 s H vs Q E (hr.deeper _) mH;have I:Bn (?ZP Dr) [] ?o3 H s1:=OO S hr.hd e0 hl r x;apply ql1 (ht [] s1 ?o3 H _ I hq) (λfl s' hs=>?_) λe s' hs=>hs
 have fin:∀{σ':St}{H':Hp}{v:V}[?aI],Bn (?ZP Dr) [] σ' H' s'->?d4->?n2->?H2 :=
  λ{σ' H' v u} J rv q=>#[v,H',J.os,J.bare,J.base,J.hok,rv,q]
 cases fl with
 | ret u =>
   let#[v,σ',H',J,rv,q]:=hs;exact fin J rv q
 | next =>
   let#[σ',H',J,q]:=hs;exact fin (v:=V.non) (u:=Value.none) J rfl q
 | brk =>
   let ?SF:=hs;exact ?e0 q
 | cont =>
   let ?SF:=hs;exact ?e0 q
section
variable{X:Cx}{x:Str}{p pos:Pos}{e:Expr}[?aC]{t:TA}{id T:String}{r:?d0}
abbrev tCB(r:?d0)(t:TA):TE:=λσ H Q=>t σ H λvs H1=>r vs H1 Q
def Az(hc:Fm X ?mG r)(hm:?yP)(hv:?t4=?c ?mG)[?k5](hg:?q9:=by rfl)[?tU][?nC]
 [?n7] (hpl:?iJ (·.1)=false:=by rfl):?KG:=by
 ext V;apply ?a3O I;exact ?ZY PyProof.Rows.callWith_builtin1
def Cg(hc:Fm X ?wT r)[?nY](hm:?yP)(hv:?t4=?c ?wT)[?k5][?tU][?nC]
 [?n7] (hpl:?iJ (·.1)=false:=by rfl):?KG:=by
 ext V;apply ?a3O I;exact ?ZY qh1
universe e9
universe L2
namespace HT
open PySem PyProof.Rows
section
open PySem.SeqAt
open PySem.AutoSeq1 (wpAny_loadPart')
open PySem.MeetsSeq PySem.MeetsSeq2 PySem.MeetsSeq3
universe e9
section
variable[?k3][?E][?a3][?b1]
def cat_tup{t b:Addr}{vs ws:?y}[?dD](ht:?lL ?t t ?j9)(hb:?lL ?t b ?wK)(hv:vs≠[])
 (h1:ws=[]->Q ?tB s) (h2:ws≠[]->Q ?fG { s with heap:=?a21 ?gW ?HW })
 (hsz:vs.length+ws.length<=sizeLine):?ZU ?bI (?fL .Add ?tB ?qR):=by
 let ?G7:=id ht;let ?K5:=id hb;ext DJ;have e:vs.toArray++ws.toArray=?HW:=?a0
 by_cases hw:ws=[]
 . exact ?o4 ?l6 ?oQ ?BF ?wO qu4 qt6 (qt0 _ _)
    (tuple_addW1 t b ?j9 ?wK n n2 dd dd2 sl sl2 (?lK) (by simp[hw])) #[ho,ho2,h1 hw]
 . apply ?o4 ?l6 ?oQ ?BF ?wO qu4 qt6 (qt0 _ _)
    (tuple_addW2 t b ?j9 ?wK n n2 dd dd2 sl sl2 (?lK) (by simpa using hw) (by rw[qc5,qc5];exact hsz)) ?KE
   rw[e];exact h2 hw
abbrev sIx(n d:Nat):?bS->Nat
 | none=>d
 | ?L=>?w3
def sIx_none(n d:Nat):sIx n d ?a5=d:=rfl
def sIx_nat(n d k:Nat):sIx n d (?c ?i2)=min k n:=by
 show(if ?i2<0 then(?i2+?aR).toNat else min (k:Int).toNat n)=min k n;rw[?iM,qf9]
def Ab1(n d:Nat)(hd:d<=n)(o:?bS):sIx n d o<=n:=by
 cases o with
 | none=>exact hd
 | some v =>
   show(?w3)<=n;by_cases hv:v<0
   . rw[?D hv];omega
   . rw[?v hv];exact qq4 _ _
def mQ(v:Int)(n d:Nat):(if v<0 then max (v+?aR) 0 else min v ?aR)=((sIx n d ?lQ:Nat):Int):=by
 show(if v<0 then max (v+?aR) 0 else min v ?aR)=(((?w3):Nat):Int)
 by_cases hv:v<0
 . simp only[?D hv];omega
 . simp only[?v hv];omega
def LC[?k8](n:Nat):?NH=(?o2,?QM):=by
 have h1:¬(?g3<0):=O9m
 unfold Builtin.Slice.sliceAdjust;simp only[h1,if_false];apply Prod.ext ?_ ?_
 . cases lo with
   | none=>rfl
   | some v=>exact mQ v n 0
 . cases hi with
   | none=>rfl
   | some v=>exact mQ v n n
def jK(i j:Nat):?A3 ?iK ?CH 1=j-i:=by
 unfold Builtin.Slice.slicePlaces;have h1:?g3 > 0:=O9m
 simp only[h1,if_true,Int.ediv_one];split<;>omega
def Zu[?hO]{o:?bS}{Q:?bS->?fK}(p:?sV v o)(h:Q o s):?ZU ?bI (Builtin.Slice.slicePartIndex v):=by
 cases p with
 | none=>exact ?T5 h
 | int i t=>exact slicePart_int h
def Wh{sl:Addr}[?ZE]{n:Nat}{Q:Int × Int × Nat->?fK}[?XM]
 (h:Q (?o2,1,?JX-?W5) s):?ZU ?bI (Builtin.Slice.sliceApplied ?r4 (?T ?aR)):=by
 let ?LZ:=id hs;unfold Builtin.Slice.sliceApplied Builtin.Slice.sliceFields;apply qa6 (qa6 (qh6 hos hds (x:=vl) rfl (qa6 (qh6 hos hds (x:=vu) rfl (qa6 (qh6 hos hds (x:=?aK) rfl (qb9 ?_)))))));apply qa6 (?T5 ?_);show ?a18 (if ?a4N (?g3==0) then _ else _);rw[?v ?bN];apply qa6 (Zu pl (qa6 (Zu pu (qa6 (qb9 ?_)))));show ?a18 (match ?NH with | (lo,hi)=>?T (lo,?g3,?A3 lo hi 1));rw[LC lo hi n];show ?a18 (?T (?o2,?g3,?A3 ?o2 ?QM 1));rw[jK];exact qb9 h
def rH(xs:?cC)(i k:Nat):((?eS k).filterMap ?Q3).toArray=((xs.toList.drop i).take k).toArray:=by
 have e:(?Q3)=?FH:=by
  funext m
  have:?S3=i+m:=O9m
  rw[this]
 rw[e];have:=pick_run xs i k;rw[List.filterMap_map]at this;have e2:((λx=>xs[x]?) ∘ λx=>i+x)=?FH:=rfl;rw[e2]at this;rw[this]
def getItem_tuple_cut{t sl:Addr}{items:?cC}[?ZE][?dD](ht:?lL ?t t ?j5)[?XM]
 (hw:¬(?cS=0/\?gM=items.size))
 (h:Q ?fG { s with heap:=?gW { cls:=?c7,data:=?Y (?a0F ?cS).toArray } })
 (hsz:?a13 items.size):?ZU ?bI (?p4 ?tB ?r4):=by
 have MG:sizeOk (?Y (?a0F ?cS).toArray):=by
  show(?a0F ?cS).toArray.size<=sizeLine;rw[qc5,qd5,qj3,qw4];exact qa5 (qq4 _ _) (qa5 ?F4 hsz)
 have hj:?gM<=items.size:=Ab1 _ _ ?a8 hi;let ?LZ:=id hs;have hTs:?AT ?r4 "slice":=#[os,hos,hcs]
 unfold getItem
 try with_reducible apply qo0 ?_
 first | apply qa6 (qb9 ?_) | skip
 apply qa6 (wpAny_sequenceKey ?tC ?bN ?_)
 apply qa6 (wpAny_callSpecial?_slot (name:=Str.ofString ?IN) ?tC qx4
  (ql5 qx4 ?tC entry_tuple_getitem ?_ (args_tuple_getitem _ _)))
 show ?a18 (Builtin.Tuple.tupleItemsOf ?tB>>=_);apply qa6 (tupleItemsOf_ ht ?_);apply qa6 (wpAny_typeOf hTs ?_);rw[?D ?bN];apply qa6 (Wh hs pl pu ?_)
 have hno:¬(?FB):=by
  intro q;rw[qb7,qb7]at q;have q1:?FW=0:=?MK q.1.1;have q2:?gM-?cS=items.size:=?MK q.2;exact hw #[O9m,O9m]
 show ?a18 (if ?FB then _ else _);rw[?v hno,rH]
 first
  | exact ?UC
  | exact ?a02 qa6 (qb9 (qb9 #[_,rfl,qb9 h]))
  | exact qa6 (?a02 qb9 (qb9 #[_,rfl,qb9 h]))
  | exact qa6 (?UC)
universe e9
universe HT
namespace L2
open PySem PySem.Spec PyProof.Rows
noncomputable abbrev TO:=?a4A ?xP
abbrev PO(X:Cx)(e:?R6)(t:TO):Prop :=
 ∀[?O] (Q:?xP),?C->?gE →
   ?ZL (evalPart e ?h) (λu s'=>∃o H',?tG/\?sV u o/\Q o H')
abbrev vI:TO:=?a2Y ?a5
inductive uK(Q:?xP)(x:V)(H1:Hp):Prop
 | mk:∀i,?qO->(Q (?c i) H1)->?HV
abbrev At8(t:TE):TO:=?ZQ t ?HV
section
variable{X:Cx}[?uB]{lo hi:?R6}{tl th:TO}{pos p2:Pos}
def Ir:PO X ?a5 vI:=by
 ext V;rw[evalPart_none];exact qb9 #[?a5,H,I,?aK,h]
def Fr(h:?x3):PO X (?c e) (At8 te):=by
 intro Ae s σ H Q I hw;rw[evalPart_some];apply Dz (?ZT h hw) ?t0;ext bP;let ?MD:=q1;let ?cV:=r1;exact#[?c i,H1,I1,?g i t,q]
abbrev SlR(X:Cx)[?Z1]:Prop :=
 ∀[?O] (x:V) (v vl vu:Value) [?k8] (sl:Addr) (Q:VK),?C->?e1->?QE->?OF->?Q1->r x lo hi H Q →
   ∃T id,typeLookup ?wT ?IN=?T (?c ?mG)/\?AT v T/\?ZL (?p4 v ?r4) ?b3
abbrev tSl[?Z1](te:TE)(tl th:TO):TE:=λσ H Q=>te σ H λx H1=>tl σ H1 λl H2=>th σ H2 λu H3=>r x l u H3 Q
def Fh{r:?mQ}(hr:SlR X r)[?hG](hl:PO X lo tl)(hu:PO X hi th):?a1F (?sK e (.Slice lo hi ?a5 p2) pos) (tSl r te tl th):=by
 ext V;apply ?G6 (Dz ?gS ?gD);ext bP;apply wpAny_Slice (Dz (?ZS hl _) λvl s2 #[l,H2,I2,pl,q2]=>Dz (hu Ae s2 σ H2 _ I2 q2) λvu s3 _z=>?_);let#[u,H3,I3,pu,q3]:=_z;rw[evalPart_none];apply qb9 ?_;have I4:?ZR H3 ?CJ:=I3.kept (t':=s3.toks) ?q2;let#[T,id,hT,ht,hg]:=hr Ae ?CJ σ H3 x v vl vu l u ?AR Q I4 r1 (Heap.IsSliceOf.new ..) pl pu q3;show ?e ?k X.A (?FA e (.Slice lo hi ?a5 p2) v (?l ?AR)) ?b3 ?m ?CJ;exact tail_any (ops:=[?l ?AR,v]) ht hT hg (by with_unfolding_all rfl)
abbrev Kb[?a9][?k8]:?o:=?a1N ?v8
def X6[?a9][?k8]:(?i9).length<=xs.length:=by
 unfold Kb;rw[qd5,qj3];exact qa5 (qq4 _ _) ?F4
inductive zL[?d][?DT][?b9]:Prop
 | mk:∀a xs,?d3->?lU->(¬(?f5=0/\?a3Z ?mU))->(?ZZ (?N (?i9)))->?I4
abbrev Bk5[?d]:?mQ:=?a45 ?I4
def Aa9:SlR X (Bk5 X.K):=by
 ext DF;let ?JW:=h;cases rx;let ?KW:=?c9 hx;have hlen:?a3Z its.toArray.size:=by rw[qc5];exact r.length.symm
 apply#[?fE,_,qx4.lookup,?tC,?_];apply HT.getItem_tuple_cut ht hs pl pu (by rw[hlen];exact hw) ?_ (by rw[hlen];exact hz);rw[hlen];apply#[?f3,_,?a0K ?N (?i9),rfl,?x8];exact#[?T7,_,?a1N r.drop,?yA]
inductive UP[?d][?bQ]:Prop
 | mk:∀a b xs ys,?d3->?AB->?lU->(?a33 b ys)->(xs≠[])->(?a28 ys.length)->((ys=[]->Q ?bF H))->((ys≠[]->?ZZ (?N (xs++ys))))->?RX
abbrev Ax2[?d]:R2:=?a0H ?RX
def Vals.nil_iff[?bA][?R](r:?b6):us=[]↔xs=[]:=by
 cases r with
 | nil=>simp
 | cons _ _=>simp
def WI:?a35 Ax2 X.K:=by
 ext dC;let#[a,b,xs,ys,rfl,rfl,ha,hb,hx,hz,q1,q2]:=h;ext X3;apply HT.cat_tup p1 p2 (λz=>hx (r1.nil_iff.mp z)) (λz=>#[?aD,H,I,rfl,q1 (r2.nil_iff.mp z)]) (λz=>?_) (by rw[←r1.length,←r2.length];exact hz);apply#[?f3,_,?a0K ?N (xs++ys),rfl,q2 (λw=>z (r2.nil_iff.mpr w)) _ ?kS];exact#[?FL,_,r1.append r2,?yA]
universe e9
abbrev xA(n:Nat)(i:Int):?bD Nat:=if ?iH then(if i<n then ?c ?zL else none) else if ?BJ then ?c ?OL else none
abbrev BP[?hP](xs:?hV)(i:Int):?bD α:=(xA ?c4 i).bind λj=>xs[j]?
def mE{n:Nat}{i:Int}{j:Nat}(h:xA n i=?d1):?QN i n=?d1/\j<n/\?BJ/\i<n:=by
 unfold xA at h;by_cases h0:?iH
 . rw[?D h0]at h;by_cases h1:i<n
   . rw[?D h1]at h;have e:?S8:=qa8 h;exact#[by rw[?AD h0 h1,e],O9m,O9m,h1]
   . rw[?v h1]at h;cases h
 . rw[?v h0]at h;by_cases h1:?BJ
   . rw[?D h1]at h;have e:?OL=j:=qa8 h;exact#[by rw[?yK ?X h1,e],O9m,h1,O9m]
   . rw[?v h1]at h;cases h
def MS[?hP]{xs:?hV}{i:Int}{v:α}(h:BP xs i=?L):∃j,?G1=?d1/\xs[j]?=?L/\?AY/\-?lD<=i/\?HA:=by
 unfold BP at h;cases e:xA xs.length i with
 | none=>rw[e]at h;cases h
 | some j =>
   rw[e]at h;let ?UL:=mE e;exact#[j,h1,h,h2,h3,h4]
def Bo[?hP]{xs:?hV}{j:Nat}{v:α}(h:xs[j]?=?L):BP xs ?CH=?L:=by
 have hj:?AY:=(?f9 h).1
 have e:xA ?c4 ?CH=?d1:=by
  unfold xA;rw[?D ?X,?D ?X];simp
 unfold BP;rw[e];exact h
abbrev xX(b:Expr):Prop:=∀o i,?IC b ?cT o i=operate [o,i] (?p4 o i)
abbrev IxR(X:Cx)(r:R2):Prop :=
 ∀(value slice:Expr) [?O] (x y:V) (v u:Value) (Q:VK),?C->?e1->?m7->?OO →
   ?IC slice ?cT v u=operate [v,u] (?p4 v u)->?ZL (?FA ?p8 slice v u) ?b3
abbrev MtR(X:Cx)(id:String)[?tX]:Prop :=
 ∀[?O] (x:V) [?a9] (v:Value) [?dE] (Q:VK),?C->?e1->?b6->?KC →
   ?JT
section
variable{X:Cx}[?EB][?a4]
def Ba{r:R2}(hr:IxR X r)[?fS](hs:xX b):?a1F (?sK a b pos) ?qV:=by
 ext V;exact ?G6 (Al3 ha hb I h λv u s2 x y H2 I2 rx ry q=>hr a b Ae s2 σ H2 x y v u Q I2 rx ry q (hs _ _))
inductive zO[?d][?bQ]:Prop
 | mk:∀p xs i v,(x=?dO)->(?oV)->(?J5)->(BP xs i=?L)->(Q v H)->?V4
abbrev Ax0[?d]:R2:=?a0H ?V4
inductive ZN[?d][?bQ]:Prop
 | mk:∀p xs i v,(x=?dO)->(?oV)->(?a33 p xs)->(BP xs i=?L)->(Q v H)->?EL
abbrev Aw9[?d]:R2:=?a0H ?EL
def WZ:IxR X (Ax0 X.K):=by
 ext WS;let ?IX:=?e4;ext WM
 by_cases h0:?iH
 . have hj:?S8:=by
    rw[?AD h0 h5]at h1;exact ?t8
   exact item_listR ?gF h0 O9m (by rw[hj];simpa using ew) fin hs
 . have hj:(i+?EH).toNat=j:=by
    rw[?yK ?X h4]at h1;ext hL;exact ?t8
   exact ?FC (x:=w) ?QL ?UJ
    (wpAny_getItem_list_neg (Q:=?V2) ?gF O9m (by rw[qc5]<;>omega) O9m (by rw[hj];simpa using ew) ?HN) hs
def Ag5:IxR X (Aw9 X.K):=by
 ext WS;let ?IX:=?gK;ext WM
 exact ?FC (x:=w) pl.typeIs slot_tuple_getitem.lookup
  (getItem_tuple (j:=j) (Q:=?V2) pl O9m O9m (by ext hL;exact h1) (by simpa using ew) ?HN) hs
def JU[?u9](n j:Nat)[?eE]:?pC (·.setIfInBounds j u) ?z1={ cls:=?b4,data:=?Y (its.set j u).toArray n }:=by
 simp[Obj.mapSeq]
def Bn.lst[?B]{p:Addr}[?bA][?f](h:?B2) :
 ∃(its:?y) (n:Nat),?i3/\?PP/\?eV:=by
 let ?pT:=?b8 p _ h;exact#[its,n,r,e,z]
def Bn.lstUpd[?B]{p:Addr}[?hH]{its its':?y}{n n':Nat}{f:Obj->Obj}[?f](h:?B2)
 (ho:?PP) (hf:f ?z1=?HX) (r:?VI) [?E7] (t:Nat) :
 Bn X Ae σ (?a06 p ?f4) { s with heap:=?rL p f,toks:=t }:=by
 have e:(?rL p f).get? p=?c ?HX:=by
  rw[Heap.get?_update_self f ho (by rw[hf]<;>rfl),hf]
 apply ?yG (x:=p) (e:=p) (by rw[h];trivial) ?dZ (λb u hb q=>(?W2 _ _ ?FV).trans q) ?uT ?_;exact#[hz,?eQ,n',r,e]
inductive UN(o:V)(i:V)(v:V)(H:Hp)(Q:(?aB)):Prop
 | mk:∀p xs k j,(o=?dO)->(i=?g k)->(?B2)->(xA ?c4 k=?d1)->(Q (?a06 p (?x (xs.set j v))))->?W9
abbrev Aw6:V->V->V->?ZX Hp (?aB):=λo i v H Q=>?W9
def Ga:A90 X Aw6:=by
 intro Ae s σ H o i v ov iv u Q I ro ri rv h;let#[p,xs,k,j,rfl,rfl,hp,hj,q]:=h;cases ro;let ?cV:=ri;let#[its,n,r,ho,hz]:=I.lst hp;let ?UL:=mE hj;have hl:=r.length;have hn:=EF
 have I':Bn X Ae σ (?a06 p (?x (xs.set j v))) { s with heap:=?rL p (?pC (·.setIfInBounds j u)) } :=
  I.lstUpd hp ho (JU its n j u) (r.set rv j) (by rw[qi4];exact hz) ?kF
 by_cases h0:0<=k
 . have hk:k.toNat=j:=by
    rw[?AD h0 h4]at h1;exact ?t8
   exact PySem.W.ki_setAt ho h0 O9m (by ext hL;exact h4) (by rw[hk];exact#[_,I',q])
 . have hk:(k+?EH).toNat=j:=by
    rw[?yK ?X h3]at h1;ext hL;exact ?t8
   exact PySem.W.ki_setBack ho O9m (by ext hL;exact h3) O9m (by rw[hk];exact#[_,I',q])
def DO[?k8](n:Nat):(?BG).1=((?i1 n 0 lo:Nat):Int)/\(?BG).2.1=((?i1 n n hi:Nat):Int)/\(?BG).2.2=1:=by
 apply#[?_,?_,rfl]
 . cases lo with
   | none=>simp[sliceBounds,HT.sIx]
   | some i =>
     ext WZ
     . simp only[h,if_true]<;>omega
     . simp only[h,if_false]<;>omega
 . cases hi with
   | none=>simp[sliceBounds,HT.sIx]
   | some i =>
     ext WZ
     . simp only[h,if_true]<;>omega
     . simp only[h,if_false]<;>omega
def AQ[?u9][?k8]:slicePick ?M lo hi ?a5=((its.drop (?HY)).take (?i1 ?A6 ?A6 hi-?HY)).toArray:=by
 let#[h1,h2,h3]:=DO lo hi ?lN;unfold slicePick;rw[h1,h2,h3];simp only[sliceRange_one,pick_run,qc5]<;>rfl
inductive ZL[?d][?DT][?b9]:Prop
 | mk:∀a xs,?d3->(?dR)->(?ZZ (?x (?i9)))->?IP
abbrev Aw5[?d]:?mQ:=?a45 ?IP
def VM:SlR X (Aw5 X.K):=by
 ext DF;let#[a,xs,rfl,hx,q]:=h;cases rx;let ?KW:=?b2 hx;have hlen:=r.length;apply#[?dQ,_,?UJ,ht.isList.typeIs,?_];apply wpAny_getItem_list_slice ht.isList hs pl pu ?aK ?G ?_ (by rw[qc5]<;>omega);rw[AQ,←hlen];apply#[?f3,_,?a0K ?x (?i9),rfl,?x8];exact#[?T7,_,0,?a1N r.drop,?gU]
def fJ:?a0U "len" (λxs H Q=>∃p ys,?iV/\(?z0\/?CA)/\Q (?g ?pJ) H):=by
 ext fQ;ext XX;have hn:=EF;rcases hq with hq | hq
 . ext DH;exact Calls.call_len_list ?gF ?n0 ?R0
 . ext DX;have hlen:=r'.length;exact len_tuple pl ?n0 ?R0
def FI:Fm X (?b4) (λxs H Q=>∃p ys,?iV/\(?z0\/?CA)/\?ME):=by
 ext fQ;ext XX
 have fin:∀[?u9],?SO->?VZ->∀(h':Heap) (c':Nat),(∀b o',?aU b=?c o'->?j7=?c o') →
  ?yU=?c { cls:=?b4,dict:=none,data:=?Y ?M c',slots:=#v[] }->?a0I ?fG ?i6:=λits r' hz h' c' kp e =>
  #[?f3,_,?jL (t':=s.toks) kp ?a8 (show ?c8 ?aN X.w _ h' _ ?f4 from#[hz,its,c',r',e]),rfl,?x8]
 rcases hq with hq | hq
 . ext DH;let ?O5:=pl.isList;exact ?a0R ?dZ
 . ext DX;have hlen:=r'.length;let ?O5:=pl;exact ?a0R (?i rfl)
def bN:Fm X (?c7) (λxs H Q=>∃p ys,?iV/\((?z0/\?EM)\/(?CA/\Q ?aW H))):=by
 ext fQ;let#[p,ys,rfl,h]:=h;let ?NZ:=Ul r;cases rx;rcases h with⟨hq,q⟩|⟨hq,q⟩
 . ext DH;apply call_tuple_list ?gF (λh' kp=>?_) ?n0;have I1:?vA:=?lY (t':=s.toks) kp
   have I2:Bn X Ae σ (?a06 ?V9 (?N ys)) { s with heap:=?a21 h'.push ?M } :=
    ?zW (t':=s.toks) (?sG) ?a8 (show ?c8 ?aN X.w _ _ _ (?N ys) from#[hz,its,r',?yA])
   exact#[?l ?V9,_,I2,rfl,q _ (I1.hok.fresh ?a8)]
 . ext DX;exact call_tuple_same pl #[?dO,H,I,rfl,q]
abbrev tyV[?d](T:String)(x:V)(H:Hp):Prop:=match x with
 | ?c1=>T=?mE
 | ?e5=>T=?cY
 | ?dO=>(T=?dQ/\∃xs,?J5)\/(T=?fE/\∃o,?hS p=?n/\?CW/\?B7) ∨
    (T=?s0/\((∃kvs,H p=?c (.dK kvs))\/∃kvs,H p=?c (.dT kvs)))\/(T="set"/\∃S n,H p=?c (?K4))
 | _=>False
def ZY[?B]{T:String}{x:V}[?hO][?f](r:?e1)(ty:tyV X.K T x H) :
 ?AT v T/\∀a,?jM->∃ob,?aU a=?c ob/\ob.dict=none:=by
 cases x with
 | str z =>
   ext fZ;cases (show T=?mE from ty);exact#[typeIs_str s z t,?VK]
 | int i =>
   ext fZ;cases (show T=?cY from ty);exact#[?AF s i t,?VK]
 | ref p =>
   cases r;rcases ty with⟨rfl,xs,hq⟩|⟨rfl,o,hk,hc,hd⟩|⟨rfl,hk⟩|⟨rfl,S,n,hk⟩
   . let#[its,_,pl,_]:=?e4;apply#[?QL,?EI];cases e;let#[o,n,e,c,hd,_]:=pl;exact#[o,e,hd]
   . apply#[#[o,?b7 p o hk,hc],?EI];cases e;exact#[o,?b7 _ o hk,hd]
   . have z:∃o,?aU p=?n/\o.ExactDict:=by
      rcases hk with⟨kvs,hk⟩|⟨kvs,hk⟩
      . ext XR
      . ext XR
     let ?IG:=z;ext XN
   . let#[o,_,_,_,e,ex,_]:=?K6;ext XN
 | _=>exact ?e0 ty
structure B19[?d](T:String)[?tX](t:TA)(σ:St)[?k7]:Prop where
 mk::(left:tyV K T x H1) (right:t σ H1 λxs H2=>r x xs H2 Q)
abbrev tBM[?d](T:String)[?tX](to:TE)(t:TA):TE:=λσ H Q=>to σ H λx H1=>B19 K T r t σ Q x H1
variable{o e:Expr}[?aC][?XD]
def Ax7[?WO]
 [?XL]
 (hfew:(?NB
   && ?a0C 1)=true:=by rfl)
 [?YY] [?DC] (hplain:?A1 (·.1)=false:=by rfl) :
 ?a1F (?a4L o) (tBM X.K T r to t):=by
 ext V;apply wpAny_Call_method_late hbase hfew hline rfl (Dz (?ZT ho h) ?gD);let#[x,H1,I1,r1,ty,q1]:=_z;let ?eK:=ZY I1 r1 ty;apply#[T,id,pa,slot,hty,h1,h2,?_];have hA:=ha cpos Ae s1 σ H1 _ I1 q1;rw[hs]at hA ⊢;apply qr0 (by show(false || ?A1 (·.1))=false;rw[hplain]<;>rfl) (qx7 ?_);exact Dz hA λus s2 #[vs,H2,I2,r2,q2]=>hm Ae s2 σ H2 x vs v us Q I2 r1 r2 q2
universe e9
abbrev MtM(X:Cx)(id:String)[?tX]:Prop :=
 ∀[?O] (x:V) [?a9] (v:Value) [?dE] (Q:VK),?C->?e1->?b6->?KC →
   ?JT
def Vals.one:∀{x:V}[?R],?SP->?N4
 | _,_,?H r ?A=>?GZ
def Vals.eraseIdx:?a42 (?V1 i) (us.eraseIdx i)
 | _,_,_,?A=>?A
 | _,_,0,?pQ=>t
 | _,_,i+1,?iB=>?H r (Vals.eraseIdx i t)
def Vals.rep[?bA][?R](h:?b6):∀k:Nat,?P (?I0).flatten (?c2 k us).flatten
 | 0=>?A
 | k+1=>by
   rw[qj6,qj6,ql8,ql8];exact ?OQ h (Vals.rep h k)
def CF[?hP]:∀(l:?hV) (i:Nat),(l.eraseIdx i).length<=l.length
 | [],_=>?dS
 | ?d8,0=>?sA
 | _::r,i+1=>qj0 (CF r i)
def cQ[?u9]:∀(k:Nat) (acc:?y),
 ?xV (λx1 x2=>x1++x2) acc.toArray (?c2 k ?M)=(acc++?Q6).toArray
 | 0,acc=>?a0
 | k+1,acc=>by
   have e:acc.toArray++its.toArray=(?zP).toArray:=?a0
   have e2:(?zP)++?Q6=acc++(?c2 ?jO its).flatten:=by
    rw[qj6,ql8,qx6]
   rw[←e2,←cQ its k (?zP),←e,qj6,qr7]
section
variable{X:Cx}[?B]{l b:Addr}{xs ys zs:?o}
def Bn.lset{its its':?y}{n:Nat}{f:?cC->?cC}[?eH][?f](hH:?iZ)
 (e:?GB) (hf:f ?M=its'.toArray) (hv:?VI) [?E7] :
 Bn X Ae σ (?a06 l ?f4) { s with heap:=?rL l (?pC f),toks:=t' }:=by
 have q:=PySem.IsL.update e f;rw[hf]at q;apply ?yG (x:=l) (e:=l) (by rw[hH];exact trivial) ?dZ (λb' u hb hu=>(?W2 ?t (?pC f) ?FV).trans hu) #[_,q] ?_;exact#[hz,?eQ,_,hv,q]
def Bn.lnew{its:?y}[?eH][?f](hv:?SO)[?E7] :
 Bn X Ae σ (?a06 ?s ?f4) { s with heap:=?gW { cls:=?b4,data:=?Y ?M },toks:=t' } :=
 ?jL (λ_ _ q=>?m1) ?a8 #[hz,its,0,hv,?gU]
def Bn.fresh[?f]:?lO:=?vN
def Bn.lstM[?f](hH:?iZ):?eV/\∃(its:?y) (n:Nat),?i3/\xs.length=its.length/\?GB:=by
 let ?pT:=?b8 l _ hH;exact#[z,its,n,r,r.length,e]
def RX{n:Nat}(h:?JA):?VE n=false:=by
 unfold Builtin.List.listTooLong;exact qj8 O9m
universe e9
section
variable{X:Cx}
inductive IT(x:V)[?eB][?b9]:Prop
 | mk:∀l xs y,?r2->?N7->(?iZ)->(xs.length<sizeLine)->(Q ?u (?a06 l (?x (xs++[y]))))->?OM
abbrev VT:?mP:=λx vs H Q=>?OM
def Fi:MtM X "list.append" VT:=by
 ext DO;let#[l,xs,y,rfl,rfl,hH,hz,q]:=h;ext DU;ext DW;apply ?m0 F.slot_list_append ?lT F.entry_list_append (F.args_list_append_2 _ _) (PySem.list_append l ?M n u (by rw[qc5];omega)) ?CF;apply#[?u,_,I.lset (its':=its++[u]) hH e ?G (?v3 (?H ru ?A)) ?_,rfl,q];rw[qc6,qq2];omega
inductive MW(x:V)[?eB][?b9]:Prop
 | mk:∀l xs i k y,?r2->(vs=[?I])->(?iZ)->(-(?iP)<=i)->(i<?iP)->(?G1=?c k)->(xs[k]?=?lA)->(Q y (?a06 l (?x (?V1 k))))->?MM
abbrev Ab7:?mP:=λx vs H Q=>?MM
def HA:MtM X "list.pop" Ab7:=by
 ext DO;let#[l,xs,i,k,y,rfl,rfl,hH,h1,h2,hk,hy,q]:=h;ext DU;let ?cV:=ru;ext DW;let#[w,hw,rw']:=?j6 hy
 apply ?m0 F.slot_list_pop ?lT F.entry_list_pop (F.args_list_pop_2 _ _)
  (MeetsSeq.list_pop_at l ?M n i t k w (?QQ) (by ext hL;exact hk) (by rw[←Array.getElem?_toList];exact hw) (by rw[qc5];omega)) ?CF
 apply#[y,_,I.lset (its':=its.eraseIdx k) hH e ?_ (r.eraseIdx k) ?_,rw',q]
 . show its.toArray.eraseIdxIfInBounds k=(its.eraseIdx k).toArray;rw[List.eraseIdxIfInBounds_toArray]
 . have:=CF xs k;omega
inductive zM[?bQ]:Prop
 | mk:∀l k xs,?r2->(y=?g k)->(?iZ)->(-(?iP)<=k)->(k<?iP)->(xs.length*k.toNat<=sizeLine)->(?ZZ (?x (?c2 ?oJ xs).flatten))->?H3
abbrev Bk6:R2:=?a0H ?H3
def wW[?hP](xs:?hV)(k:Nat):(?I0).flatten.length=k*xs.length:=by
 induction k with
 | zero=>simp
 | succ k ih=>rw[qj6,ql8,qc6,ih,Nat.succ_mul,qy0]
def rO:P9 X (?fL .Mult) Bk6:=by
 ext dC;let#[l,k,xs,rfl,rfl,hH,h1,h2,hz,q]:=h;cases rx;ext eA;ext DW;have hlen:?a13 ?C7:=by ext hL;exact hz
 have hcap:¬?C7 > ?P2:=by
  have:?B1<=?P2:=?o7
  omega
 have hfit:¬?a4N (!Builtin.List.listFitsIndex k):=by
  rw[?QQ];exact qe3
 have A40:¬?VE (?C7)=true:=by
  rw[RX hlen];exact qe3
 have hnew:?a0P (if ?a4N its.toArray.isEmpty then 0 else k.toNat) ?oJ:=by
  have f0:∀m:Nat,?a0P m m:=λm=>by
   have:=cQ its m [];rw[qo9]at this;exact this
  rw[f0];cases its with
  | nil=>simp
  | cons a r'=>rw[?mL]
 apply wpAny_binaryOp_repeat_ref (T:=?dQ) (U:=?cY) ?bN ?lT (λs'=>?AF s' k t) noFill_list_mul F.fills_int_mul ?GA repeat_list F.slot_int_index.lookup
  (?m0 ?GA (?AF s k t) F.entry_int_rmul (F.args_int_rmul_2 _ _) (int___rmul___int_list k t l ?M n)
    #[e,rfl,?lT,?m0 F.slot_list_mul ?lT F.entry_list_mul (F.args_list_mul_2 _ _) (AutoListH.list___mul___list_int_3 l ?M n k t hfit hcap A40) ?CF])
 rw[hnew];exact#[?l _,_,I.lnew (t':=s.toks) (r.rep ?oJ) (by rw[wW,Nat.mul_comm];exact hz),rfl,?R3]
universe e9
section
variable[?k3][?E][?a3][?b1]
universe e9
section
variable{X:Cx}
universe e9
universe L2
namespace Att
open PySem PySem.W PySem.Calls PyProof.Rows
def Yr{P:Params}[?aQ]:∀[?hJ] (vs:?y),WellAll P h vs (?mN WData.int)->?s5:=by
 intro ns
 induction ns with
 | nil =>
   intro vs w;rw[qq1]at w;cases w;exact ?A
 | cons n ns ih =>
   intro vs w;rw[qc8]at w;cases w with
   | cons a b =>
     cases a;exact ?H _ _ (ih _ b)
def script_of{l:OpenLaw}{n:Nat}(hn:l.most=?c n){P:Params}[?aQ]{args:?JO}{vals:?y}
 (hpre:l.row.toRowW.claim.pre ?cL=true) (hwl:WellAll P h vals ?cL) :
 ∃a vs ns,vals=[?gT a]/\args=[WData.list (?mN WData.int)]/\?bX=?c ?pK/\?s5/\?TN:=by
 have hsh:WShape.hasAll [] ?cL [.list ?g]=true:=(?TQ).1;have hc:l.pre.holds [] { args:=args }=true:=(?TQ).2;let#[d,r,rfl,h1,h2]:=hasAllW_cons hsh;obtain rfl:=hasAllW_nil h2;let#[xs,rfl,h3]:=hasW_list h1;let#[ns,rfl]:=items_int h3
 have hlen:?TN:=by
  unfold OpenLaw.pre at hc
  have h4:(WTm.not (.lt (.lit (?g ?aR)) (.len (.arg 0)))).holds [] { args:=[.list (?mN ?g)] }=true:=by
   have h4:=(holds_andW hc).1;rw[hn]at h4;exact h4
  have h5:=condW_of h4 (w_not (w_lt w_lit (w_len_list (w_arg rfl))));rw[qa4]at h5;apply qg9 λq=>?_;have q':?aR<((ns.length:Nat):Int):=O9m
  first
   | (rw[qf2 q']at h5;exact ?w h5 ?bN)
   | (simp at h5;omega)
 cases hwl with
 | cons w1 w2 =>
   cases w2;cases w1 with
   | list ho hall=>exact#[_,_,ns,rfl,rfl,ho,Yr ns _ hall,hlen]
def post_true(l:OpenLaw)(args:?JO):l.row.toRowW.claim.post ?cL ?m5 ?cL=true :=
 postW_of (r:=l.row.toRowW) (X:=(true==true))
  (show WShape.has [] ?m5 ?bU=true by first | rfl | decide | simp[WShape.has,WShape.arms,WShape.armsAll])
  (show(WTm.eq .res (.lit ?m5)).value [] { args:=args,res:=?c ?m5,after:=args }=?c (?bU (true==true)) from w_eq_bool (w_res rfl) w_lit) rfl
section
variable[?k3][?E][?a3][?b1]{K:Frag}
universe e9
universe Att
namespace L2
open PySem PySem.Spec PyProof.Rows
def bT:∀[?nP][?hK],?s5->?P ?lZ vs
 | _,_,?A=>?A
 | _,_,?H n t h=>?H ?cV (bT h)
abbrev Al8(H:Hp):Prop:=∀b,?Z\/∃o xs,H b=?c (.frz o ?kG)
def SV[?cE]{mg mb:?eX}{CX:UU}{k:Nat}{fa a:Addr}{fd:FuncData}{x:Str}{sp:Sp}{s₁:Shared}[?nP][?hK]
 (KX:K.In ?sJ) (hns:?x6 ?HZ mg) (hb:?x6 ?MS mb) (hbb:?IH) (hlim:s₁.heap.NoLimit) (hg:s₁.gens=#v[])
 (ha:?HL a=?c ?pK) (hi:?s5) (hl:?GG) (hr:Hk k ?C5)
 (F:∀base:Heap,?VQ->?L5->Bv P w K mg ?aX CX k fa fd [x] sp) (hbind:∀[?dH] [?eE],?CP s fd #[[u],[]] [(x,u)])
 (mH:∀H:Hp,Al8 H->?s4->sp ?e3 H (λv _=>v=?D1) ?r1)
 (hCX:∀H e s',CX [] H ?iA (?r1) e s'->False) :
 ?RS:=by
 have rv:=bT hi;have Bn4:=hi.length
 have core:∀H:Hp,Al8 H->?s4->S9 P w H ?sJ->(∀b,H b≠none->b=a)->(H a≠none->?hS a=none) →
  ?RS:=by
  intro H hO hS hok hA hK;have mS:∀[?kA],?P8->?Z->(?mT).get? b=?n:=λe n=>tL e n
  have noA:∀[?kA]{es:?jH DictEntry}{ep:Nat},?P8->?MP->?Z:=λ{b o es ep} e d=>by
   cases q:H b with
   | none=>rfl
   | some u =>
     have e':b=a:=?QW;subst e';rw[ha]at e;cases e;have d':?H5 ?j9 _=Data.dict es ep:=d;cases d'
  have nsK:∀{b:Addr}[?nN],?x6 b m->(?mT).Ns b m:=λ{b m} #[o,es,ep,e,d,r]=>#[o,es,ep,mS e (noA e d),d,r]
  have hKb:K.In (?mT):=λb o e=>mS (KX b o e) (by
   cases q:H b with
   | none=>rfl
   | some u =>
     have e':b=a:=?QW;subst e';rw[hK (?vI)]at e;cases e)
  have hM:Mod K mg (?mT):=#[hKb,nsK hns,#[mb,nsK hb,hbb],let #[mc,h1,h2]:=hlim;#[mc,nsK h1,h2]]
  have e0:lH P w K mg (?mT) ?C5 [] ?iA H:=#[rfl,hM,λb o e=>WL e,ql9 (OT _ _),trivial,λb hb=>?w (show b∈([]:?aV) from hb) ?G,hok,.of_eq hg]
  apply codeAny_mono ((F _ hKb (nsK hns)).run callerA [] s₁ H #[[.ref a],[]] [.ref a] [.ref a] _ _ hr e0 (hbind s₁ (.ref a)) (.cons rfl .nil) (mH H hO hS)) λr s' h=>?_;cases r with
  | error e=>exact(hCX H e s' h).elim
  | ok fl =>
    cases fl with
    | next=>exact ?e0 h
    | brk=>exact ?e0 h
    | cont=>exact ?e0 h
    | ret u =>
      let#[v,H',os,bare,un,Bq4,r',q]:=h;have q':v=.bl true:=q;subst q';obtain rfl:u=Value.bool true:=r';apply#[rfl,OldK.of_keep λb o e=>?_,os,bare];cases q:H b with
      | none=>exact un.keep b o e q (by intro z;exact ?RJ) ?G
      | some u =>
        rcases hO b with z|⟨ob,xs,z⟩
        . rw[q]at z;cases z
        . have z2:=un.frzs b ob _ z;let#[e1,_]:=hok b _ z;let#[e2,_]:=Bq4 b _ z2;rw[e]at e1;cases e1;exact e2
 cases hk:K.lookup a with
 | some o =>
   have e:=KX a o hk;rw[ha]at e;cases e;apply core (?h0) (λ_=>?hW) (?i #[_,?j9,_,hk,rfl,rfl,rfl,by rw[qc5,Bn4];exact hl,?M4]) (λb u z=>by have z':(none:?CS)=?U:=z;cases z') (λb z=>?VB) λz=>?VB
 | none =>
   apply core (λb=>if b=a then ?c (.frz ?pK (?x ?lZ)) else none) (λb=>?_) (?j (?i #[?pK,?D rfl])) (λb u z=>?_) (λb z=>?_) λ_=>hk
   . by_cases hb:b=a
     . exact ?i #[_,_,?D hb]
     . exact ?j (?v hb)
   . by_cases hb:b=a
     . have z':=(?D hb).symm.trans z;cases z';subst hb;exact#[ha,by rw[qa4];exact hl,vs,_,rv,ha]
     . have z':=(?v hb).symm.trans z;cases z'
   . by_cases hb:b=a
     . exact hb
     . exact ?w (?v hb) z
abbrev Fd(s:Stmt)(j:Nat):Stmt:=match s with
 | .ClassDef _ _ _ ?h5 _ _ _ _ _ _ _=>body.getD j (?EO)
 | _=>?EO
abbrev Jx(s:Stmt):Arguments:=match s with
 | ?uM _ a _ _ _ _ _ _ _ _=>a
 | _=>{ posonlyargs:=[],args:=[],vararg:=none,kwonlyargs:=[],kw_defaults:=[],kwarg:=none,defaults:=[] }
abbrev Ht(s:Stmt):?fA:=match s with
 | ?uM _ _ b _ _ _ _ _ _ _=>b
 | _=>[]
abbrev Ar(s:Stmt):Scope:=match s with
 | ?uM _ _ _ _ _ _ sc _ _ _=>sc
 | _=>{ kind:=?jN,names:=[],isGenerator:=false,isCoroutine:=false }
noncomputable abbrev Eo:UU:=λ_ _ _ _ _ _=>False
noncomputable abbrev E0:XK:=?r1
def gP{X:Cx}:Ui Eo X E0:=λ_ _ _ _ _ _ _ h=>h.elim
structure E9[?d](x qual:Str)(st:Stmt)(f:Addr)(fd:FuncData):Prop where
 ex:∃(oc:Value) (od:OAddr) (kV doc pm:Value) (an:OAddr) (Dr ct:Value) (osl:Td),
  fd=?qM/\?a12 fd/\?BT
 kp:?pG
section
variable[?cE][?nF]
def E9.ok[?WW][?YL]
 (hbody:∀(Dr:Value) [?DD],?JL->?l0 →
   ?KD):?O2:=by
 ext Y0;apply A64 lk hcd S len λA outer s H vs Q E hr mH=>?_;let#[t,h,q]:=hbody Dr A ?a6 s H vs Q E hr mH;exact#[t,h.nox,q]
def E9.okZ[?WW]
 (hbody:∀(Dr:Value) [?DD],?JL->?l0 →
   ?KD) (len:?AN:=by intro vs H Q E h;(repeat (rcases h with⟨⟩;rename_i h));all_goals first | exact ?cK ?NO (by assumption) | (subst_vars;rfl)):?O2:=F.ok S len hbody
def E9.binds[?ZJ][?E4](F:?RH)
 (h:∀(kV doc pm:Value) (an:OAddr) (Dr ct:Value) [?dE],?U0->?JF (?qM) ?CC=?T ?kI):?wZ:=by
 ext Y0;exact .all (h kV doc pm an Dr ct)
def EU[?ZJ]{oc:Value}{od an:OAddr}{osl:Td}{kV doc pm Dr ct:Value}(l:?a12 (?qM))
 (c:?BT) (k:?pG):E9 K x ?aY st f (?qM):=#[(?a3D l c),k]
universe e9
section
variable{X:Cx}
def pv(i:Nat){x:Str}[?a4](hN:?iI:=by rfl)(hv:?q5:=by first | exact ?F6 | exact ?zM (?F6) | exact ?zM (?zM rfl))[?jU]
 [?YT]:?F0:=Ac5 hN hv hd hcd
universe e9
def ite2[?E6](h1:c->A)(h2:¬c->B):?uZ:=by
 by_cases h:c
 . rw[?pP];exact h1 h
 . rw[?v h];exact h2 h
abbrev Same(H H':Hp):Prop:=∀b o,?JU
def Same.refl(H:Hp):?e7 H H:=λ_ _ h=>h
def Same.trans{H H1 H2:Hp}(a:?uN)(b:?e7 H1 H2):?e7 H H2:=λc o h=>b c o (a c o h)
def Same.free[?eF](e:?c6){l:Addr}(h:H' l=Option.none):H l=Option.none:=by
 cases q:H l with
 | none=>rfl
 | some o =>
   rw[e l o q]at h;cases h
def Same.seq[?aH][?eF][?aJ][?bA](e:?c6)(h:?dR):SqL K H' a xs:=by
 rcases h with(h|⟨o,h⟩) | h
 . exact ?j (?j (e _ _ h))
 . exact ?j (?i #[o,e _ _ h])
 . exact ?i h
abbrev bM(cells:?h1):?qD->?h1->?h1
 | [],acc=>acc
 | ?C1,acc=>bM cells r (if ?xL then(n,(?qU n).getD 0)::acc else acc)
def aC{sc:Scope}{env:Env}(h:∀n,?zO->?MT):closureFor sc env=?a4X ?iW []:=by
 have all:∀(l:?qD) (acc:?h1),(∀n,?wR∈l->?MT) →
  (forIn l acc λ(x:?OD) (cs:?h1)=>match x with
    | (?a2,kind)=>if ?a4N (?a23 kind) then(do let c ←cellOf env ?a2;?T (?sY ((?a2,c)::cs))) else ?T (?sY cs))=(?a4X l acc:Sem _):=by
  intro l
  induction l with
  | nil=>intro acc _;rfl
  | cons x r ih =>
    intro acc hl;let#[n,k]:=x;rw[List.forIn_cons];ext DQ
    . ext YW
      subst hk';let#[c,hc]:=hl n qb3;have e1:cellOf env n=?T c:=by unfold cellOf;rw[hc]
      simp only[beq_self_eq_true,if_true,e1,pure_bind];rw[?P6];show _=(?a4X r (if ?a4N (?a23 NameKind.free) then ?IQ else acc):Sem _)
      rw[?x2,hc];rfl
    . have hk2:(?zT)=false:=?A4
      simp only[hk2,qs6,if_false,pure_bind];rw[?P6];show _=(?a4X r (if ?xL then ?IQ else acc):Sem _)
      rw[?h4]
 have:=all ?iW [] h;unfold closureFor;dsimp only;rw[this,pure_bind]
def Ic[?ZA]{c:Addr}:∀[?YM],(∀n,?wR∈l->∃c,?qU n=?bM) →
 (acc.lookup x=?bM->?EN)->?a3U x->?EN
 | [],_,_,ha,h=>ha h
 | ?C1,acc,hl,ha,h=>by
   apply Ic (l:=r) (?RZ) ?_ h;ext DQ
   . rw[?j1];ext YW
     subst hk';let#[d,hd]:=hl n qb3;intro e;rw[qq6]at e;cases hx:x==n with
     | true =>
       rw[hx]at e;have hxn:x=n:=?sE
       subst hxn;rw[hd]at e ⊢;exact e
     | false=>rw[hx]at e;exact ha e
   . rw[?h4];exact ha
def aD[?ZA]:∀[?YM],(?vS∈l\/∃c,acc.lookup x=?bM)->∃c,?a3U x
 | [],_,h=>by
   rcases h with h | h
   . exact ?oY
   . exact h
 | ?C1,acc,h=>by
   apply aD (l:=r) ?_;ext DQ
   . rw[?j1];by_cases hx:?a4N (x==n)
     . exact ?i #[(?qU n).getD 0,by rw[qq6,hx]]
     . have hx2:?a2W x n:=?sE
       rcases h with h|⟨c,h⟩
       . ext nH
         . have e1:x=n:=?cK Prod.fst e;exact ?w (by simp[e1]) hx
         . exact ?j e
       . exact ?i #[c,by rw[qq6,hx2];exact h]
   . rw[?h4];rcases h with h | h
     . ext nH
       . have e2:NameKind.free=k:=?cK Prod.snd e;exact ?w (by simp[←e2]) hk
       . exact ?j e
     . exact ?i h
abbrev Ge(X:Cx)[?E9][?eG](s₀:Shared)(H₀:Hp)[?uC]:Cx where
 prog:=X.prog
 w:=X.w
 K:=X.K
 mg:=X.mg
 base:=X.base
 A:=X.A
 N:=N'
 s₀:=s₀
 H₀:=H₀
 env:=compEnvC sc (?yX) C ?h
 outer:=X.stack
 stack:=X.stack
 ex:=fp
 fn:=λ_=>false
 calm:=X.calm
 pn:=[]
 xe:=?g8
abbrev kY[?u2](σ:St):St:=cap.map ?RK
structure Yf(X:Cx)[?E9][?u2]:Prop where
 kind:?q8
 len:?OA
 nocell:?NL
 locals:∀x∈sc.names,?RT
 free:∀n,?zO->?lX n=?aZ\/?lX n=?cZ
 slots:∀(i j:Nat) (x:Str),N'[i]?=?cX->cap[i]?=?c (?d1)->X.N[j]?=?cX/\(?RG)/\?q5
section
variable[?nA][?B]{C:Addr}[?dF]
def Yf.cells[?u6](ok:X.Ok):∀n,?zO->∃c,?sU n=?bM:=λn hn=>ok.has n (c.free n hn)
def Mi{env:Env}{x:Str}{k:NameKind}(hnc:?NL)(h:(relabel sc env).names.lookup x=?c k)(hk:k=?p9\/k=?lV):?EK:=by
 have all:∀(l:?qD),(∀x∈l,?yC)->(l.map λ ?gR=>if (?zT&&?T8&&?KF) then ?CE else ?gR).lookup x=?c k->?vS∈l:=by
  intro l
  induction l with
  | nil=>intro _ h;exact ?oY
  | cons p r ih =>
    intro hn h;let#[n,q]:=p;rw[qc8,qq6]at h;by_cases hc:?a4N (?a23 q&&?T8&&?KF)
    . have hq:q=NameKind.free:=by
       have:=hc;simp only[qb7]at this;simpa using this.1.1
      simp only[hc,if_true]at h;cases hx:x==n with
      | true =>
        have e:x=n:=?sE
        rw[e,hq];exact qb3
      | false =>
        rw[hx]at h;ext YP
    . simp only[hc]at h;cases hx:x==n with
      | true =>
        have e:x=n:=?sE
        simp only[qs6,if_false,hx]at h;have e2:q=k:=?CZ
        rcases hk with z | z
        . exact ?w (e2.trans z) (hn (n,q) qb3)
        . rw[e,←z,←e2];exact qb3
      | false =>
        simp only[qs6,if_false,hx]at h;ext YP
 exact all ?iW hnc h
def XN[?u6][?f](hC:?wF)[?hB][?Z7]:(?K3).Ok where
 mod:=I.ok.mod
 kind:=c.kind
 glob:=I.ok.glob
 blt:=I.ok.blt
 above:=hC
 inj:=λx y a hx hy=>?T1 x y a (?a17 hx) (?a17 hy)
 has:=λx hx=>by
  apply aD (?j ?_);rcases hx with hx | hx
  . exact Mi ?lE hx ?dZ
  . exact Mi ?lE hx (?i rfl)
 cab:=λ_ _ h=>?oY
 hd:=I.ok.hd
 frames:=I.ok.frames
 stk:=?hW
 exf:=λb hb'=>#[?a1V (?IK) hC,λx a e=>(?rW).2.2.2.2.1 x a (?z8)]
 bs:=I.bs
 bsz:=?JS
 noex:=λb o e hb'=>by
  rcases (?rW).2.2.2.1 with z | z
  . exact ?AC b o e z
  . exact ?a0Y ?dP (qa5 ?BS z)
 exfs:=λb hb' z=>by
  let#[_,f1,f2,_]:=?rW;rcases ?w9 with e | e
  . exact f1 e
  . exact f2 e
 funs:=I.stack
 frf:=I.stkFree
def uD[?u6][?f]{D:Addr}{h1:Heap}{t:Nat}(hC:C=?fF)(hD:?a3E D)[?hB][?Z7]
 (hn:h1.Ns C ?h0) (hl:?r6 D=?a3A 0) (k:∀b o,?cU->?r6 b=?n) :
 Bn (?K3) [] ?rA (?a06 D ?gB) { s with heap:=h1,toks:=t }:=by
 have hCs:?wF:=?RP
 have hCD:C≠D:=by rw[hC,hD];exact qu2 _
 have ok:=XN (C:=C) (fp:=fp) c I hCs hf hb;have hDn:?wW:=by rw[hD];exact I.fresh
 have ltc:∀x a,(?yX).lookup x=?c a->?FG:=λx a e=>?z8;have cel:∀a v,?r3 a v->h1.IsCell a v:=λa v ?y0=>#[o,k a o ho,hd]
 have ltD:∀a v,?r3 a v->a≠D:=λa v ?y0=>?a3P ?wB
 apply#[ok,rfl,?bY,Un.laid k (?a3P ?dS) hDn,#[_,hn,?EY],?KJ,?_,?KJ,?GV,?_,?_]
 . have e2':cap[i]?.map (?RK)=?x9:=by
    have:=e2;unfold kY at this;rw[qb0]at this;exact this
   cases hc:cap[i]? with
   | none=>rw[hc]at e2';cases e2'
   | some o =>
     rw[hc]at e2';cases o with
     | none=>cases e2'
     | some j =>
       have e4:?I6=?L:=by simpa using e2'
       let#[q1,q2',q3]:=c.slots i j x e1 hc;have q2:?EK:=q2'.elim (λz=>Mi ?lE z ?dZ) λz=>Mi ?lE z (?i rfl);let#[m,hm,hl']:=I.loc
       have e5:σ[j]?=?x9:=by
        cases z:σ[j]? with
        | none=>rw[z]at e4;cases e4
        | some y=>rw[z]at e4;cases y with
          | none=>cases e4
          | some y'=>cases e4;rfl
       let ?z6:=hl' j x v q1 e5 q3;apply ?LF;let#[a,ha]:=aD (cells:=X.env.cells) (l:=sc.names) (acc:=[]) (x:=x) (?j q2);have kd:?JR:=c.free x q2;rcases l with⟨hk,_⟩|⟨hk,a',ha',hcell⟩
       . rcases kd with z | z<;>rw[z]at hk<;>cases hk
       . have e6:a'=a:=by
          have:=ltc x a ha;rw[ha']at this;exact ?LT
         apply ?i #[q2',a,ha,?_];rw[←e6];exact cel _ _ hcell
 . let ?BP:=?Q2;exact#[v,cel a v z]
 . show upd H D ?gB C=none;rw[Al hCD];exact ?jD hCs
 . show upd H D ?gB a=none;let ?BP:=?Q2;rw[Al (ltD a v z)];exact ?cQ x a (ltc x a e)
 . exact ?MV k (?a3P ?dS) #[?lC,[],0,?A,hl]
 . show(?EJ).length=N'.length;unfold kY;rw[qa4,c.len]
universe e9
abbrev XO(wH:Scope)(N:?J)[?E9][?u2]:Bool :=
 ?q (?q8)&&?q (?OA)&&?C0 (λx=>?q (?yC))&&?C0 (λx=>?q (?RT)) &&
 ?C0 (λx=>?q (x.2=NameKind.free->(?mI x.1=?aZ\/?mI x.1=?cZ))) &&
 (?uK).all (λp=>match p.2 with
   | none=>true
   | ?d1=>?q (N[j]?=?c p.1)&&?q ((?a00 ?aZ) ∨
      (?a00 ?cZ)) &&
     ?q (?yQ=?dW\/?yQ=?aZ\/?yQ=?cZ))
def MQ[?nA](h:?KQ):?p7:=by
 unfold XO at h;rw[qb7,qb7,qb7,qb7,qb7,qd3,qd3,qd3,qd3]at h;let#[#[#[#[?eK,h3],h4],h5],h6]:=h;apply#[qc2 h1,qc2 h2,λx hx=>qc2 (h3 x hx),λx hx=>qc2 (h4 x hx),λn hn=>qc2 (h5 _ hn) rfl,λi j x e1 e2=>?_]
 have hm:(x,?d1)∈?uK:=by
  have e:(?uK)[i]?=?c (x,?d1):=by
   rw[List.getElem?_zip_eq_some];exact#[e1,e2]
  exact qb1 e
 have h7:=h6 _ hm;dsimp only at h7;rw[qb7,qb7]at h7;let#[#[h8,h9],h10]:=h7;exact#[qc2 h8,qc2 (p:=?RG) h9,qc2 (p:=?a0B ?dW\/?a0B ?aZ\/?a0B ?cZ) h10]
abbrev PTs(X:Cx)(ifs:?gZ)(t:TT):Prop :=
 ∀[?O] [?k6],?C->?gE →
   ?e ?k X.A (forIn ifs ?cW λc r=>if ?a4N r then do let ok ←?z2 c ?h (?a4F c);?T (?sY ok) else ?T (?sY r)) (TP X Ae σ Q) ?m s
abbrev NN:TT:=?a2Y ?cW
def Cc{X:Cx}:PTs X [] NN:=?a11 wpAny_tests_nil #[H,I,h]
def Y5{X:Cx}{c:Expr}{t:TT}(h:PT X c t):PTs X [c] t:=?a1O wpAny_tests_one
abbrev Rl(J:It)(g:TG)(tc:TT)(te:TE)(D:Addr)(Q:?aB)(τ:St)(H:Hp):Prop :=
 ∃W:Nat->?U9,(∃m,W 0 m [] τ H)/\∀i m ys τ H,W i m ys τ H →
   (?yW/\Q H) ∨
   (?yB/\∃N:?Q0,(∀ys' τ' H',N ys' τ' H'->∃m',m'<m/\W ?aO m' ys' τ' H') ∧
     ∀x H',?O1->g x τ H' λτ2 H2=>tc τ2 H2 λb H3=>if ?kU then te τ2 H3 (?a1R τ2) else N ys τ2 H3)
section
variable[?nA][?ZB][?a4][?kC]{te:TE}
def pO{Y:Cx}{J:It}[?dF]{it D:Addr}{tn:?oG}{R:?yJ}{Q:?aB}{τ:St}{H:Hp}[?b1]
 (hx:Y.xe=?g8) (hc:?a4N Y.calm) (hg:PG Y tg g) (ht:PTs Y ifs tc) (he:PE Y elt te) (T:Xn Y.prog Y.w Y.K tg J fp it tn) (st:?SN) (hf:∀b∈fp,Nk Y [] H b) (I:Bn Y [] τ H s)
 (h:?ZN J tc) (hR:∀τ' H' s',?FJ->Q H'->R (.ok .next) s') :
 ?gQ (?sQ Y.prog Y.w) Y.A (?I5 ?fC 0 ?cR ?i5 Y.env) R s:=by
 let#[W,?Q4,turn]:=h;have JA:∀{H':Hp},?iN->∀b∈fp,Nk Y [] H' b:=λhn b hb=>#[hn b hb,(?rJ).2]
 have no:∀{P:Prop}{e:Value}{s':Shared},Y.xe e s'->P:=λz=>by rw[hx]at z;exact z.elim
 apply codeAny_loop rfl (λn s'=>∃i ys τ' H',?FJ/\?T3/\?iN/\W i n ys τ' H') ?_ m0 #[0,[],τ,H,I,st,?o6,w0];rintro n s3 ⟨i,ys,τ3,H3,I3,st3,vA,w3⟩;show ?e _ Y.A ((compTurn ?fC 0 ?cR ?i5 Y.env).onRaise (λx=>do noteFrame x Y.env;theTreesLotGoes x)) _ _ s3;apply wpAny_noted ?_;rw[compTurn_list];apply ?a2L ?xD ?_;rcases turn i n ys τ3 H3 w3 with⟨stop,qn⟩|⟨go,N,hN,step⟩
 . apply ql1 (T.done Y rfl rfl rfl hc i [] s3 τ3 H3 (?g8) I3 ?qP st3 stop) (?oF) ?yN;let ?FK:=_z;subst hr;exact qb9 (hR _ _ _ I4 qn)
 . apply ql1 (T.item Y rfl rfl rfl hc i [] s3 τ3 H3 (?g8) I3 ?qP st3 go) (?oF) ?yN;let ?O6:=_z;subst hr;apply qa6 (ql1 h4 (?WA) ?yN);ext X6
   have again:∀{τ7:St}{H7:Hp}{ys7:?o}{s7:Shared},Bn Y ([]++?OY) τ7 H7 s7->N ys7 τ7 H7->∃m,m<n/\∃i ys τ' H',Bn Y [] τ' H' s7/\?N9/\?iN/\W i m ys τ' H':=λ{τ7 H7 ys7 s7} I7 n7=>by
    let ?HG:=hN ys7 τ7 H7 n7;apply#[m',hm,i+1,ys7,τ7,H7,?t9,?MW,?gC,w7];ext X0
   apply qa6 (ql1 (hg _ s5 τ3 H5 x u _ I5' r5 (step x H5 y5)) (λ_ s6 _z=>?_) λ_ _ z=>no z);let#[τ6,H6,I6,q6]:=_z;apply qa6 (ql1 (ht _ s6 τ6 H6 _ I6 q6) (λok s7 _z=>?_) λ_ _ z=>no z);let#[H7,I7,q7]:=_z;cases ok with
   | false =>
     have q8:N ys τ6 H7:=?UG
     exact qb9 #[rfl,again I7 q8]
   | true =>
     have q8:te τ6 H7 (?a1R τ6):=?UG
     apply qa6 (qa6 (ql1 (he _ s7 τ6 H7 _ I7 q8) (λy s8 _z=>?_) ?UD));let#[v8,H8,I8,r8,hD,hl,n8]:=_z;apply qa6 (ql1 (Fi _ s8 τ6 H8 ?i5 [v8] ?i5 [y] (λ_ H9=>N (ys++[v8]) τ6 H9) I8 rfl (?H r8 ?A) #[D,ys,v8,rfl,rfl,hD,hl,n8]) (λ_ s9 _z=>?_) ?UD);let#[_,H9,I9,_,n9]:=_z;exact qb9 (qb9 #[rfl,again I9 n9])
def AB[?B]{J:It}[?dF]{it:Addr}{tn:?oG}{RR:?aE->?g7->?yJ}{Q:?g7->?aB}[?a3]
 [?u6] [?cF] [?WH]
 [?f] (T:?OW) (st:?SN) [?hB]
 (h:∀D,?wW->Rl J g tc te D (Q D) ?rA (?a06 D ?gB))
 (hR:∀D C s' H' m',?wW->?wF->?yO->?qA->?a3Q fp ?fH->?N8->s'.heap.Ns C m'->H' C=none->C ∉ fp->Q D H'->RR ?i5 C (.ok .next) s') :
 ?e ?k X.A (newList []) (λacc s₃=>?e ?k X.A (newFunctionEnv sc X.env.globals (?yX) [] X.env.qual ?a5 ?aK (?c ?h)) (λcenv s₄ =>
  ?gQ ?k X.A (.compStart ?fC 0 ?cR acc { cenv with scope:=?AL }) (RR acc cenv.locals) s₄) E s₃) E s:=by
 have hb:?P5:=λb hb=>by
  let ?UO:=T.obj _ _ st b hb;ext bB
 apply qm1 (wpAny_newFunctionEnv ?lE (by intro y hy;simp at hy) (λh₁ Ah7 xB=>?_) ?CQ);dsimp only at Ah7 xB ⊢;generalize hH2:?gW { cls:=?b4,dict:=none,data:=?Y ([]:?y).toArray }=H2 at Ah7 xB ⊢;have hC:H2.objs.size=?fF:=by rw[←hH2,qi2]
 have hCl:?a0O H2.objs.size:=?RP
 have hCn:s.heap.objs.size≠H2.objs.size:=by rw[hC];exact(qu2 _).symm
 have old:∀b o,?cU->?RQ b=?n:=λb o e=>by
  have l1:=qc3 e;exact ?VJ b o (?a1V l1 hCl) (qa7 _ (hH2▸ ?j3))
 have hl:?RQ ?s=?a3A 0:=?VJ _ _ hCn (qa7 _ (hH2▸ ?gU));have Bq6:h₁.Ns ?xU ?h0:=by simpa using Ah7
 have I4:Bn (?oB) [] ?rA (?a06 ?s ?gB) ?U4:=uD c I hC rfl hf hb Bq6 hl old;have hfr:?lO:=I.fresh
 have f4:∀b∈fp,Nk (?oB) [] (?a06 ?s ?gB) b:=λb hb'=>by
  let ?Q8:=?rW;have lb:=?IK;apply#[by rw[Al (qe2 lb)];exact f0,(?a1V lb hCl:b≠H2.objs.size),λz=>?_,?j hb',λx a e=>f4 x a (?z8),?GV];rcases ?w9 with e | e
  . exact f1 e
  . exact f2 e
 have st4:tn 0 h₁:=T.keep _ _ _ st λb _ o e=>old b o e
 have loop:∀s₅:Shared,s₅=?U4 →
  ?gQ ?k X.A (?I5 ?fC 0 ?cR ?fG (?oB).env) (RR ?fG ?xU) s₅:=by
  rintro s₅ rfl;apply pO (Y:=?oB) (J:=J) (fp:=fp) (tn:=tn) (Q:=Q ?s) rfl hc (hg _ _ _ _) (ht _ _ _ _) (he _ _ _ _) T st4 f4 I4 (h _ hfr) λτ' H' s' I' q'=>?_;let#[m',hn',_]:=I'.loc;exact hR _ _ s' H' m' hfr hCl I'.os I'.bare I'.base I'.hok hn' I'.free (λz=>?a0Y (hb _ z) hCl) q'
 exact codeAny_compStart_list (loop _ rfl) (T.self _ 0 _ _ _ st4 (loop _ rfl))
abbrev YE(wi:TI)[?u2](g:TG)(tc:TT)(te:TE):TE:=λσ H Q=>wi σ H λJ H1=>∀D,H1 D=none->Rl J g tc te D (λH'=>?U3) ?rA (upd H1 D ?gB)
def Bn.fpCh{Ae:Bm}{H:Hp}[?dF][?hB]:∀b∈fp,?PD :=
 λb hb=>let #[_,f1,_,f3,f4,f5]:=?rJ;#[f3,f1,f4,f5]
def B8{wi:TI}[?cF][?XT](hg:?QJ)(ht:?VH)
 (he:?SM) [?DE]:?a1F ?fC (YE wi cap g tc te):=by
 ext V;have c:?p7:=MQ hcap;rw[eval_ListComp];apply ?QS (use:=none) rfl hs ?HF ?CQ ?JQ (?a4E h);ext Y7;apply AB (RR:=?a43 ?a5 ?b3) (Q:=λD H'=>?U3) c hc hg ht he I2 T st2 f2 hW ?_;intro D C s' H' m' hD hC hos hbare hun hok hn hHC hCf q;apply#[m',hn,λh' S4=>?_];ext WL;have I4:Bn X Ae σ H' { s' with heap:=h' }:=I3.turned (t':=s'.toks) (λb o hb e=>(?d7 b hb).trans e) hHC k1 k3 k4 k5;exact#[?l D,H',I4,rfl,q]
def lU{wi:TI}[?fY]{px spos:Pos}(hN:X.N.Nodup)(hi':?iI)(hx:?AE)[?cF][?XT]
 [?WH]
 (hsw:?pR ?fC (?c (?i0)) spos.line ?h=?T ?cW:=by rfl)
 [?DE] [?h7] :
 PS X (?sO [?i0] ?fC spos) (VJ (YE wi cap g tc te) ?C8):=by
 ext hC;have c:?p7:=MQ hcap;rw[exec_Assign_Name_used _ _ _ _ hsw];apply ?a2L ?xD ?_;show ?e _ X.A (do let _ ←comprehension ?fC sc ?h _ (newList []) ?cT (?a4F iter) (?a4V ?h)) _ _ s
 apply qa6 (Dz (?QS (use:=?a4V ?h) (Q:=?TG) rfl hs ?HF ?CQ ?JQ
  (?a4E h)) λ_ s' hq=>qb9 (qb9 hq))
 ext Y7;apply AB (RR:=?a43 (?a4V ?h) (?TG)) (Q:=λA H'=>cP i (?l A) σ H' ?iU) c hc hg ht he I2 T st2 f2 hW ?_;intro A C s' H' m' hD hC hos hbare hun hok hn hHC hCf q;ext WL;show ?e _ X.A (?fB (?i0) ?h (?l A)) _ _ s';apply ?U8 (bV I3 hN hi' hx (v:=?l A) rfl (λs'' I'' _z=>?_) hf);let#[a,S4,ha]:=_z
 have hCa:C≠a:=by
  rcases ha with z | z
  . rw[z];exact k1
  . exact λz'=>k4 x a z z'.symm
 apply#[m',?NU S4 hCa,λh' Bp7=>?_];have I4:Bn X Ae (σ.set i (?c (?l A))) H' { s'' with heap:=h' }:=I''.turned (t':=s''.toks) (λb o hb e=>(Bp7.2 b hb).trans e) hHC k1 k3 k4 k5;exact#[_,H',I4,q]
universe e9
section
variable[?kC][?hA]
def cY[?fR][?dB][?DI]
 [?WD]
 [?jV]:?ZN ?rE tc:=by
 ext D7;ext DR;have q:=?RU;ext k1
 . ext D5;ext XW
 . ext k2
   ext Y9
def UC[?fR][?dB][?Y1]
 [?WD]
 [?jV]:?ZN ?oL tc:=by
 ext D7;ext DR;have q:=?RU;ext k1
 . ext D5;ext XW
 . ext k2
   ext Y9
def kW{lo:Int}{n:Nat}[?dB]
 (hs:?a26 ?BZ)
 [?Z8]:?ZN (?iR) tc:=by
 apply#[λi m ys τ H=>m=n-i/\?g4/\?cI,?uV,?_];ext DR;by_cases hlt:i<n
 . apply ?a2U hlt ?IL;let ?t2:=y;subst e y;exact hs i ys τ _ hlt p
 . have e:i=n:=O9m
   subst e;exact ?j #[?dS,?PI]
universe e9
universe L2
namespace L2
open PySem PySem.Spec PyProof.Rows PySem.SeqAt
inductive D where
 | non | bl (b:Bool) | int (i:Int) | str (x:Str) | tup [?nX] | lst [?nX]
mutual
abbrev Rep[?d](H:Hp):?ZX V D
 | v,?u=>v=?u
 | v,?bJ=>v=?bJ
 | v,?I=>v=?I
 | v,?eM=>v=?eM
 | v,?gH=>∃a vs,?jM/\?a33 a vs/\?fD
 | v,?kP=>∃a vs,?jM/\?a1X a vs/\?fD
 abbrev Reps[?d](H:Hp):?ZX ?o ?aG
 | vs,[]=>?pH
 | vs,?gA=>∃v r,vs=v::r/\?eO/\?a2V r ds
end
mutual
abbrev imm:?B3
 | ?qX=>false
 | ?gH=>?AM
 | _=>true
abbrev imms:?EV
 | []=>true
 | ?gA=>imm d&&?AM
 end
mutual
abbrev dep:D->Nat
 | ?kP=>?dN+1
 | ?gH=>?dN+1
 | _=>0
abbrev deps:?aG->Nat
 | []=>0
 | ?gA=>max (?oS) (?dN)
end
mutual
abbrev eqD:D->?B3
 | ?u,?u=>true
 | .bl a,?bJ=>a==b
 | .bl a,?kV=>(if a then 1 else 0)==b
 | ?g a,?bJ=>a==(if b then 1 else 0)
 | ?g a,?kV=>a==b
 | ?cN a,?cN b=>a==b
 | ?N a,?N b=>?m3
 | ?x a,?x b=>?m3
 | _,_=>false
abbrev eqDs:?aG->?EV
 | [],[]=>true
 | a::r,b::q=>eqD a b&&eqDs r q
 | _,_=>false
end
mutual
def Re(d:D):eqD d d=true:=by
 cases d with
 | non=>rfl
 | bl b=>simp[eqD]
 | int b=>simp[eqD]
 | str b=>simp[eqD]
 | tup ds=>ext kB;exact ?BO ds
 | lst ds=>ext kB;exact ?BO ds
def eqDs_refl[?nX]:eqDs ds ds=true:=by
 cases ds with
 | nil=>rfl
 | cons d r=>simp only[eqDs,qb7];exact#[Re d,?BO r]
end
def eqDs_len:∀{a b:?aG},?a4N ?m3->?oI
 | [],[],_=>rfl
 | [],?d8,h=>?V8
 | ?d8,[],h=>?V8
 | x::a,y::b,h=>by
   simp only[eqDs,qb7]at h;rw[qd6,qd6,?FN h.2]
def Rc:∀(a b:?aG),?oI->?m3=(?eS a.length).all λj=>match a[j]?,b[j]? with | ?cX,?lA=>eqD x y | _,_=>true
 | [],[],_=>by simp[eqDs]
 | [],?d8,h=>?f8
 | ?d8,[],h=>?f8
 | x::a,y::b,h=>by
   have h':?oI:=?CZ
   rw[qd6,List.range_succ_eq_map,List.all_cons,List.all_map];simp only[eqDs,Rc a b h']
   congr 1
structure V1(H H':Hp):Prop where
 tup:?pS
 frz:?v2
section
variable[?aH]{H H' H1 H2:Hp}{a l p:Addr}[?bA]{o:HO}
def Same.t[?uH]:?mB:=#[λb xs h=>x b _ h,λb o u h=>x b _ h]
def V1.lst(h:?iZ):V1 H (?a06 l o):=#[λb ys e=>?EW,λb ob u e=>?EW]
def Same.new(h:?oK):?e7 H (?a06 l o):=λb u e=>by rw[Al (Aq e h)];exact e
def Same.turn(x:?uN)(h:?oK):?e7 H (upd H1 l o):=λb u e=>by rw[Al (Aq e h)];exact x b u e
def SqT.t(x:?mB)(h:?dY):?KX:=by
 rcases h with(h|⟨o,h⟩) | h
 . exact ?j (?j (x.tup _ _ h))
 . exact ?j (?i #[o,x.frz _ _ _ h])
 . exact ?i h
def Same.seqT[?uH](h:?dY):?KX:=h.t x.t
mutual
def Rep.t(x:?mB){v:V}{d:D}(hi:imm d=true)(h:?eO):?IF:=by
 cases d with
 | non=>exact h
 | bl b=>exact h
 | int i=>exact h
 | str x=>exact h
 | tup ds =>
   ext u5;exact#[a,vs,e,q.t x,Reps.t x (by simpa[imm]using hi) r]
 | lst ds=>simp[imm]at hi
def Reps.t(x:?mB)[?hD](hi:?a4N ?AM)[?EE]:?Q9:=by
 cases ds with
 | nil=>exact h
 | cons d r =>
   let ?TH:=h;simp only[imms,qb7]at hi;exact#[v,q,e,Rep.t x hi.1 h1,Reps.t x hi.2 h2]
end
mutual
def Rep.same[?uH]{v:V}{d:D}(h:?eO):?IF:=by
 cases d with
 | non=>exact h
 | bl b=>exact h
 | int i=>exact h
 | str x=>exact h
 | tup ds =>
   ext u5;exact#[a,vs,e,x.seqT q,?vL x r]
 | lst ds =>
   ext u5;exact#[a,vs,e,x.seq q,?vL x r]
def Reps.same[?uH][?hD][?EE]:?Q9:=by
 cases ds with
 | nil=>exact h
 | cons d r =>
   let ?TH:=h;exact#[v,q,e,?W3 x h1,?vL x h2]
end
def Reps.length:∀[?hD],?fD->vs.length=ds.length
 | vs,[],h=>by ext E2;rfl
 | vs,?gA,h=>by
   let ?IZ:=h;rw[qd6,qd6,Reps.length h2]
def Reps.get:∀[?hD]{i:Nat}{d:D},?fD->?zS->∃v,?l5/\?eO
 | vs,[],i,d,h,e=>?QU
 | vs,?x0,0,d,h,e=>by
   let#[v,r,rfl,h1,_]:=h;simp only[qt8,Option.some.injEq]at e;subst e;exact#[v,?a0,h1]
 | vs,?x0,i+1,d,h,e=>by
   let ?IZ:=h;let ?KP:=Reps.get (i:=i) h2 (?qH);exact#[u,by simpa using e1,e2]
def Reps.getV:∀[?hD]{i:Nat}{v:V},?fD->?l5->∃d,?zS/\?eO:=λ{vs ds i v} h e=>by
 have hl:=h.length;have hi:?wC:=(?f9 e).1;obtain⟨d,hd⟩:∃d,?zS:=#[ds[i]' ?f2,?bK]
 let ?KP:=h.get hd;rw[e]at e1;cases e1;exact#[d,hd,e2]
def Reps.append:∀{vs ws:?o}{ds es:?aG},?fD->?a2V ws es->?a2V (vs++ws) (ds++es)
 | vs,ws,[],es,h,h'=>by ext E2;exact h'
 | vs,ws,?gA,es,h,h'=>by
   let ?W7:=h;exact#[v,r++ws,rfl,h1,Reps.append h2 h']
def Reps.one{v:V}{d:D}(h:?eO):?a2V [v] [d]:=#[v,[],rfl,h,rfl]
def Reps.snoc[?hD]{v:V}{d:D}[?EE](h':?eO):?a2V (vs++[v]) (ds++[d]):=h.append (.one h')
def Reps.take:∀[?hD] (n:Nat),?fD->?a2V (vs.take n) (ds.take n)
 | vs,ds,0,h=>by simp[Reps]
 | vs,[],n+1,h=>by ext E2;simp[Reps]
 | vs,?gA,n+1,h=>by
   let ?W7:=h;exact#[v,r.take n,rfl,h1,Reps.take n h2]
abbrev E4[?hJ]:?aG:=?mN D.int
noncomputable abbrev tI[?hJ]:D:=?N ?iX
def CJ:∀ns:?z,imms ?iX=true
 | []=>rfl
 | n::ns=>by show ?a4N (imm (?rN)&&imms ?iX);rw[CJ ns];rfl
def tG[?hJ]:imm (tI ns)=true:=CJ ns
def r6:∀xs:LLInt,imms ?fI=true
 | []=>rfl
 | ?mR=>by show ?a4N (imm (tI x)&&imms ?fI);rw[r6 xs,tG];rfl
def cT:∀a b:?z,?W4=?z9
 | [],[]=>?A0
 | [],?d8=>?A0
 | ?d8,[]=>?A0
 | x::a,y::b=>by
   show(eqD (?g x) (?g y)&&?W4)=_;rw[cT a b];ext kB;by_cases e:x=y
   . subst e;by_cases e2:a=b<;>simp[e2]
   . simp[e]
def TU(a b:?z):eqD (tI a) (tI b)=?z9:=by ext kB;exact cT a b
def Fg:∀[?g1][?hK],?a2V vs ?iX↔vs=?zR
 | vs,[]=>Iff.rfl
 | vs,n::ns=>by
   constructor
   . rintro ⟨v,r,rfl,h1,h2⟩;have HS:v=?rN:=h1;rw[HS,Fg.mp h2];rfl
   . rintro rfl;exact#[?rN,?zR,rfl,rfl,?RE]
universe e9
section
variable{X:Cx}[?B]
def lX[?f][?aJ][?hH][?EF](h':?SJ):False:=by
 let#[its,r,#[o,e,c,n,d],_]:=?c9 h;let#[?eQ,r',#[o',n',e',c',_,d'],_]:=?b2 h';rw[e]at e';cases e';rw[c]at c';have z:(?fE:String)=?dQ:=by injection c'
 exact ?w z ?bN
mutual
def Rep.inj[?f]{v:V}{d e:D}(h:Rep X.K H v d)(h':?AQ):d=e:=by
 cases d with
 | non=>cases (show v=?u from h);cases e<;>first | rfl | (exfalso;first | (cases (show V.non=_ from h')) | ext tV)
 | bl b=>cases (show v=?bJ from h);cases e<;>first | (cases (?a0G V.bl);rfl) | (exfalso;first | (cases (?a0G V.bl)) | ext tV)
 | int b=>cases (show v=?kV from h);cases e<;>first | (cases (?a0G ?bE);rfl) | (exfalso;first | (cases (?a0G ?bE)) | ext tV)
 | str b=>cases (show v=?cN b from h);cases e<;>first | (cases (?a0G V.str);rfl) | (exfalso;first | (cases (?a0G V.str)) | ext tV)
 | tup ds =>
   let#[a,vs,rfl,q,r]:=h;cases e with
   | tup es =>
     ext tR;have e1:=?W1 q q';subst e1;rw[?KH]
   | lst es =>
     ext tR;exact(lX I q q').elim
   | non=>ext fP
   | bl _=>ext fP
   | int _=>ext fP
   | str _=>ext fP
 | lst ds =>
   let#[a,vs,rfl,q,r]:=h;cases e with
   | lst es =>
     ext tR;have e1:=?qW q q';subst e1;rw[?KH]
   | tup es =>
     ext tR;exact(lX I q' q).elim
   | non=>ext fP
   | bl _=>ext fP
   | int _=>ext fP
   | str _=>ext fP
 def Reps.inj[?f][?g1]{ds es:?aG}(h:?l8)(h':?S X.K H vs es):ds=es:=by
 cases ds with
 | nil =>
   cases (show vs=[] from h);cases es with
   | nil=>rfl
   | cons e es=>ext nI
 | cons d ds =>
   let#[v,r,rfl,h1,h2]:=h;cases es with
   | nil=>cases (show v::r=[] from h')
   | cons e es =>
     let#[v',r',z,HS,h2']:=h';cases z;rw[?CN I h1 HS,?NY I h2 h2']
end
abbrev EqD(X:Cx)(H:Hp)[?dH](d:D):Prop:=∀[?kE] (x y:V) (u v:Value) (e:D),?a2P ?oS->?CR->Rep X.K H y e->?cB->?AX->RcAt A s u v (eqD d e)/\EqAt A s u v (eqD d e)
def dQ[?f]{ds es:?aG}{vs ws:?o}{us us':?y}[?E](hu:?FI)(r:?l8)(r':?S X.K H ws es)(rv:?g9)(cB:?P ws us')
 (ih:?OZ) (hdm:∀d∈ds,?LH):∀j (h1:j<us.toArray.size) (h2:j<us'.toArray.size),EqAt A s ?I7 ?UF (match ds[j]?,es[j]? with | ?cX,?lA=>eqD x y | _,_=>true):=by
 intro j h1 h2;have l1:=r.length;have l2:=r'.length;have l3:=rv.length;have l4:=cB.length;have HS:j<us.length:=?pX
 have h2':j<us'.length:=?zE
 have e1:ds[j]?=?c (?F2):=?bK
 have e2:es[j]?=?c (es[j]' ?f2):=?bK
 let#[v,ev,rd]:=?j6 e1;let#[w,ew,re]:=r'.get e2;let#[u,eu,ru]:=?iY ev;let#[u',eu',ru']:=cB.get ew
 have f1:?I7=u:=by
  have:us[j]?=?c us[j]:=?a0
  rw[eu]at this;have:=?xC;ext fX
 have f2:?UF=u':=by
  have:us'[j]?=?c us'[j]:=?a0
  rw[eu']at this;have:=?xC;ext fX
 rw[f1,f2,e1,e2];have hm:?F2∈ds:=qe4 _;exact(ih _ hm A v w u u' _ (by have:=hdm _ hm;omega) rd re ru ru').2
def Sd:∀{ds:?aG}{d:D},d∈ds->?LH
 | ?x0,d,h=>by
   simp only[deps];rcases ?eN h with rfl | h
   . omega
   . have:=Sd h;omega
def Rv{a b:?aG}(h:¬?oI):?m3=false:=by
 cases q:eqDs a b with
 | false=>rfl
 | true=>exact ?w (?FN q) h
mutual
def KJ[?f](d:D):?J1:=by
 intro A x y u v e hu hx hy rx ry;cases d with
 | non =>
   cases (show x=.non from hx);cases (show u=Value.none from rx);cases e with
   | non=>ext jS;exact#[?KV,?BV]
   | bl b=>ext jQ;exact#[.none_bool b,.none_bool b]
   | int i=>ext jY;ext eA;exact#[?BD,?BD]
   | str z=>ext k0;ext eA;exact#[?vD,?vD]
   | tup es=>ext fU;ext fN;exact#[?uR,?uR]
   | lst es=>ext fU;ext fO;exact#[?w1,?w1]
 | bl c =>
   cases (show x=.bl c from hx);cases (show u=Value.bool c from rx);cases e with
   | non=>ext jS;exact#[.bool_none c,.bool_none c]
   | bl b=>ext jQ;exact#[?BC,?BC]
   | int i=>ext jY;ext eA;exact#[?xK,?xK]
   | str z=>ext k0;ext eA;exact#[?AH,?AH]
   | tup es=>ext fU;ext fN;exact#[?vE,?vE]
   | lst es=>ext fU;ext fO;exact#[?vU,?vU]
 | int c =>
   cases (show x=.int c from hx);let#[t,rfl]:=rx;cases e with
   | non=>ext jS;exact#[?yM,?yM]
   | bl b=>ext jQ;exact#[?zX,?zX]
   | int i=>ext jY;ext p;exact#[?xI,?xI]
   | str z=>ext k0;ext p;exact#[?BY,?BY]
   | tup es=>ext fU;ext fN;exact#[?uL,?uL]
   | lst es=>ext fU;ext fO;exact#[?zZ,?zZ]
 | str c =>
   cases (show x=.str c from hx);let#[t,rfl]:=rx;cases e with
   | non=>ext jS;exact#[?zV,?zV]
   | bl b=>ext jQ;exact#[?z7,?z7]
   | int i=>ext jY;ext p;exact#[?v1,?v1]
   | str z=>ext k0;ext p;exact#[?D2,?D2]
   | tup es=>ext fU;ext fN;exact#[?A9,?A9]
   | lst es=>ext fU;ext fO;exact#[?BR,?BR]
 | tup ds =>
   ext YQ;let ?iD:=?c9 q;ext XJ
   cases e with
   | non=>ext jS;exact#[?y6,?y6]
   | bl b=>ext jQ;exact#[?wP,?wP]
   | int i=>ext jY;ext p;exact#[?zD,?zD]
   | str z=>ext k0;ext p;exact#[?CI,?CI]
   | lst es=>ext tN;let ?oU:=?oZ;exact#[?CX,?CX]
   | tup es =>
     have hy':=hy;ext tN;let ?tE:=?s1
     have main:?a3R ?gH ?N:=by
      have:=RcAt.tuples (A:=A) p p' O9m (?a0J I);ext tH
      ext tI
      rw[e1,e2]at this;ext DK
      . rw[?oC];rw[←hl,qv0]at this;ext fX
      . ext XH
        rw[z,Bool.and_false]at this;exact this
     apply ?HO;by_cases hab:a=b
     . subst hab;have e3:D.tup ds=D.tup es:=?LW;rw[e3,Re];exact ?BV
     . exact ?N3
 | lst ds =>
   ext YQ;let ?iD:=?b2 q;ext XJ
   cases e with
   | non=>ext jS;exact#[?AK,?AK]
   | bl b=>ext jQ;exact#[?xN,?xN]
   | int i=>ext jY;ext p;exact#[?C4,?C4]
   | str z=>ext k0;ext p;exact#[?wX,?wX]
   | tup es=>ext tN;let ?oU:=?s1;exact#[?v5,?v5]
   | lst es =>
     have hy':=hy;ext tN;let ?tE:=?oZ
     have main:?a3R ?kP ?x:=by
      ext tH
      ext tI
      ext DK
      . have:=RcAt.lists (A:=A) ?a1 ?lG O9m O9m (?a0J I);rw[e1]at this;rw[?oC];exact this
      . rw[Rv hl];exact ?a22 RcAt.lists_lengths
     apply ?HO;by_cases hab:a=b
     . subst hab;have e3:D.lst ds=D.lst es:=?LW;rw[e3,Re];exact ?BV
     . exact ?N3
 def eqDs_ok[?f][?nX]:?OZ:=by
 cases ds with
 | nil=>exact λ_ h=>?oY
 | cons d0 r =>
   intro d h;rcases ?eN h with e | h
   . exact e▸KJ I d0
   . exact eqDs_ok I r d h
end
universe e9
universe L2
namespace L2
open PySem PySem.Spec PyProof.Rows PySem.SeqAt
section
variable{X:Cx}
abbrev zE(X:Cx)(H:Hp)(d:D)[?eE]:Bool:=@decide (∃v e,?d4/\?AQ/\?a4N ?CO) (?a1H _)
def KI[?B][?f]{d e:D}{v:V}[?aI][?g0](h:?AQ):zE X H d u=?CO:=by
 cases q:eqD e d with
 | true=>exact @qf2 _ (?a1H _) #[v,e,r,h,q]
 | false =>
   apply @qj8 _ (?a1H _) ?_;rintro ⟨v',e',r',h',q'⟩;have:=?qZ;subst this;rw[?CN I h h']at q;rw[q]at q';cases q'
def kJ[?B][?f][?E]{x:V}[?hO]{d:D}[?g1][?R]{ds:?aG}(hu:?FI)(hx:?CR)(rx:?e1)
 (r:?l8) (rv:?g9):∀y,y∈us.toArray->EqAt A s y v (zE X H d y):=by
 intro y hy;have hy':y∈us:=by simpa using hy
 let ?uU:=qf1 hy';have hlt:i<us.length:=?lF;have l1:=rv.length;obtain⟨w,hw⟩:∃w,vs[i]?=?lB:=#[vs[i]' ?f2,?bK]
 let#[u,hu2,ru]:=?iY hw;rw[hi]at hu2;cases hu2;let#[e,he,re]:=r.getV hw;rw[KI I ru re];have hm:e∈ds:=qb1 he;exact(KJ I e A w x y v d (by have:=Sd hm;omega) re hx ru rx).2
def mT[?B][?f]{d:D}:∀[?g1][?R]{ds:?aG},?l8->?g9->us.any ?m2=?pN
 | vs,us,[],r,rv=>by
   cases (?a0N ?pH);cases rv;rfl
 | vs,us,e::ds,r,rv=>by
   let#[v,q,rfl,h1,h2]:=r;cases rv with
   | cons r1 r2=>rw[qn2,qn2,KI I r1 h1,mT I h2 r2]
abbrev A87[?d](H:Hp)(y:V)[?nX]:Prop:=?a1Y y (?kP)\/?a1Y y (?gH)
inductive ZO[?d](n:Nat)(neg:Bool)[?bQ]:Prop
 | mk:∀d ds,?jB->(A87 K H y ds)->(?dN+1<=n)->(?a07 (if neg then !(?pN) else ?pN))->?MX
abbrev Ax1[?d](n:Nat)(neg:Bool):R2:=?a0H ?MX
def NZ{n:Nat}[?k4]:?a36 X.K:=by
 ext dC;let#[d,ds,hx,hs,hn,q]:=h
 have fin:∀[?R][?g1],?l8->?g9->?a0I (?bU (!us.toArray.any ?m2)) s:=λr rv =>
  #[.bl (!(?pN)),H,I,by show ?rB _=?rB _;rw[List.any_toArray,mT I r rv],q]
 rcases hs with⟨a,vs,rfl,hq,r⟩|⟨a,vs,rfl,hq,r⟩
 . cases ry;let ?iD:=?e4;exact ?a10 notIn_listAt ?a1
 . cases ry;let ?iD:=?gK;exact ?a10 notIn_tupleAt p
inductive mX[?d](n:Nat)(x:V)[?eB][?b9]:Prop
 | mk:∀ds y d j,?N7->(?a1Y x (?kP))->(?a1Y y d)->(?dN+1<=n)->(ds.findIdx? (?UH)=?d1)->(Q (?SG) H)->?IY
abbrev rA[?d](n:Nat):?mP:=λx vs H Q=>?IY
def sJ{n:Nat}[?k4]:MtR X ?R1 (rA X.K n):=by
 ext DO;let#[ds,y,d,j,rfl,#[a,ws,rfl,hq,r],hy,hn,hj,q]:=h;ext DU;let#[its,rw',p,hz]:=?e4;have l1:=r.length;have l2:=rw'.length;let#[hlt,hit,hno]:=List.findIdx?_eq_some_iff_getElem.mp hj
 have at':∀m (hm:m<its.toArray.size) (hm':m<ds.length),zE X H d ?L1=eqD ds[m] d:=λm hm hm'=>by
  let#[w,hw,re]:=?j6 (i:=m) (d:=ds[m]) ?G;let#[u',hu',ru']:=rw'.get hw
  have e1:?L1=u':=by
   have hm2:m<its.length:=by simpa using hm
   have:its[m]?=?c its[m]:=?a0
   rw[hu']at this;have:=?xC;ext fX
  rw[e1];exact KI I ru' re
 let#[o,k,ho,hc,hdn,hd]:=id p;let ?uY:=o;simp only at hc hdn hd;subst hc hdn hd;have hsz:?a13 ds.length:=O9m
 have big:?B1<?c5:=?QK
 apply ?m0 PySem.F.slot_list_index ?l6 PySem.F.entry_list_index (PySem.F.args_list_index_2 _ _)
  (list_indexAt a ?M k ?a5 sl u ?m2 j (?bK) O9m ?_ ?_) #[ho,kJ I (A:=X.A.in1) (by ext nD) hy ru r rw',?_]
 . rw[at' j (?bK) hlt];exact hit
 . intro m hm hmj;rw[at' m hm ?X];have:=hno m hmj;ext fX
 . exact#[?SG,H,?gY,?bV,q]
inductive ZM[?d](n:Nat)[?bQ]:Prop
 | mk:∀d e,?jB->(?a1Y y e)->(?oS<=n)->(?a07 ?rH)->?ES
abbrev Aw7[?d](n:Nat):R2:=?a0H ?ES
def Ac8{n:Nat}[?k4]:?a2T (Aw7 X.K n):=by
 ext dC;let#[d,e,hd,he,hn,q]:=h;have fin:?a0I (?bU ?rH) s:=#[.bl ?rH,H,I,rfl,q]
 have go:∀{k:Bool},RcNeAt X.A s v u k->k=?rH->?ZL (?aM .NotEq v u) ?b3:=λh1 h2=>by
  subst h2;exact h1 ?aN X.w ?m _ fin
 cases d with
 | non =>
   cases (show x=.non from hd);cases (show v=Value.none from rx);cases e with
   | non=>ext jR;exact go ?KV rfl
   | bl b=>ext jP;exact go (.none_bool b) rfl
   | int i=>ext jX;ext eA;exact ?ZM ?BD
   | str z=>ext jZ;ext eA;exact ?ZM ?vD
   | tup es=>ext fT;ext fN;exact ?ZM ?uR
   | lst es=>ext fT;ext fO;exact ?ZM ?w1
 | bl c =>
   cases (show x=.bl c from hd);cases (show v=Value.bool c from rx);cases e with
   | non=>ext jR;exact go (.bool_none c) rfl
   | bl b=>ext jP;exact ?ZM ?BC
   | int i=>ext jX;ext eA;exact ?ZM ?xK
   | str z=>ext jZ;ext eA;exact ?ZM ?AH
   | tup es=>ext fT;ext fN;exact ?ZM ?vE
   | lst es=>ext fT;ext fO;exact ?ZM ?vU
 | int c =>
   cases (show x=.int c from hd);let#[t,rfl]:=rx;cases e with
   | non=>ext jR;exact ?ZM ?yM
   | bl b=>ext jP;exact ?ZM ?zX
   | int i=>ext jX;ext p;exact ?ZM ?xI
   | str z=>ext jZ;ext p;exact ?ZM ?BY
   | tup es=>ext fT;ext fN;exact ?ZM ?uL
   | lst es=>ext fT;ext fO;exact ?ZM ?zZ
 | str c =>
   cases (show x=.str c from hd);let#[t,rfl]:=rx;cases e with
   | non=>ext jR;exact ?ZM ?zV
   | bl b=>ext jP;exact ?ZM ?z7
   | int i=>ext jX;ext p;exact ?ZM ?v1
   | str z=>ext jZ;ext p;exact ?ZM ?D2
   | tup es=>ext fT;ext fN;exact ?ZM ?A9
   | lst es=>ext fT;ext fO;exact ?ZM ?BR
 | tup ds =>
   let ?SR:=hd;cases rx;let ?iD:=?c9 q1;ext XG
   cases e with
   | non=>ext jR;exact ?ZM ?y6
   | bl b=>ext jP;exact ?ZM ?wP
   | int i=>ext jX;ext p;exact ?ZM ?zD
   | str z=>ext jZ;ext p;exact ?ZM ?CI
   | lst es=>ext tM;let ?oU:=?oZ;exact ?ZM ?CX
   | tup es =>
     ext tM;let ?tE:=?s1;apply go (RcNeAt.tuples p p' O9m (?a0S I)) ?_;ext tH
     ext tI
     rw[e1,e2];ext DK
     . rw[?oC,←hl,qv0];simp
     . ext XH
       rw[z,Bool.and_false]
 | lst ds =>
   let ?SR:=hd;cases rx;let ?iD:=?b2 q1;ext XG
   cases e with
   | non=>ext jR;exact ?ZM ?AK
   | bl b=>ext jP;exact ?ZM ?xN
   | int i=>ext jX;ext p;exact ?ZM ?C4
   | str z=>ext jZ;ext p;exact ?ZM ?wX
   | tup es=>ext tM;let ?oU:=?s1;exact ?ZM ?v5
   | lst es =>
     ext tM;let ?tE:=?oZ;ext tH
     ext tI
     by_cases hl:?VX
     . apply go (RcNeAt.lists ?a1 ?lG O9m O9m (?a0S I)) ?_;rw[e1];ext kB;rw[?oC]
     . apply go (?a22 RcNeAt.lists_lengths) ?_;ext kB;rw[Rv hl];rfl
abbrev ME(n:String):?B3
 | ?u=>false
 | ?eP=>n==?cY || n==?hZ
 | ?e5=>n==?cY
 | ?c1=>n==?mE
 | ?N _=>n==?fE
 | ?qX=>n==?dQ
abbrev tyD:D->String
 | ?u=>"NoneType"
 | ?eP=>?hZ
 | ?e5=>?cY
 | ?c1=>?mE
 | ?N _=>?fE
 | ?qX=>?dQ
def Af9[?aH]{n:String}{d:D}(hn:?BU):PySem.W.kitOne K (?aF (tyD d)) (?aF n)=?c (ME n d):=by
 rcases hn with rfl | rfl | rfl | rfl | rfl | rfl<;>cases d<;>(unfold PySem.W.kitOne PySem.W.kitCls PySem.W.subIn tyD ME;first | rfl | ext aP)
def II:Fm X (?a7 ?rU) (λxs H Q=>∃x n d,xs=[x,.ty n]/\(?BU)/\?CR/\?a07 (ME n d)):=by
 ext fQ;let#[x,n,d,rfl,hn,hx,q]:=h;let#[u,v,rfl,rx,rt]:=Ze r;cases rt;have k:=Af9 (K:=X.K) (d:=d) hn;have fin:∀tk,EP X Ae σ Q (?bU (ME n d)) { s with toks:=tk }:=λtk=>#[.bl (ME n d),H,I.tok tk,rfl,q]
 cases d with
 | non=>cases (?a46 ?u);cases (show ?rX from rx);exact ?a0D PySem.W.kitx_none ?oX
 | bl b=>cases (?a46 ?bJ);cases (show ?sZ from rx);exact ?a0D PySem.W.kitx_bool ?oX
 | int b=>cases (?a46 ?kV);ext hF;exact ?a0D PySem.W.kitx_int ?oX
 | str b=>cases (show x=?cN b from hx);ext hF;exact ?a0D PySem.W.kitx_str ?oX
 | tup ds =>
   let ?TI:=hx;cases rx;let#[its,_,#[o,e,c,_],_]:=?gK;exact ?a0D PySem.W.kitx_tuple ?TY
 | lst ds =>
   let ?TI:=hx;cases rx;let#[its,_,#[o,_,e,c,_],_]:=?e4;exact ?a0D PySem.W.kitx_list ?TY
inductive uP[?d][?bQ]:Prop
 | mk:∀a b xs ys,?d3->?AB->?lU->(?a33 b ys)->(?a28 ys.length)->?a3B (xs++ys) ?PB
abbrev YK[?d]:R2:=?a0H ?PB
def WH:?a35 YK X.K:=by
 ext dC;let#[a,b,xs,ys,rfl,rfl,ha,hb,hz,q]:=h;by_cases hx:xs=[]
 . subst hx;ext X3;cases r1;let ?G7:=id p1;let ?K5:=id p2;ext DJ
   exact ?o4 ?l6 ?oQ ?BF ?wO qu4 qt6 (qt0 _ _)
    (tuple_addW0 a b _ _ n n2 dd dd2 sl sl2 ?G) #[ho,ho2,#[?qF,H,I,rfl,q b H (Same.refl H) (?i4)]]
 . apply WI Ae s σ H ?bF ?qR v u Q I rx ry #[a,b,xs,ys,rfl,rfl,ha,hb,hx,hz,λe=>?_,λe p hp=>?_]
   . subst e;exact q a H (Same.refl H) (by simpa using ha)
   . exact ?TK
inductive uN[?d][?DT][?b9]:Prop
 | mk:∀a xs,?d3->?lU->(¬(?f5=0/\?a3Z ?mU))->?a3B (?i9) ?V3
abbrev yJ[?d]:?mQ:=?a45 ?V3
def vM:SlR X (yJ X.K):=by
 ext DF;let ?JW:=h;exact Aa9 Ae s σ H ?bF v vl vu lo hi sl Q I rx hs pl pu #[a,xs,rfl,hx,hw,λp hp=>?TK]
inductive MY[?d][?bQ]:Prop
 | mk:∀l b xs zs,?r2->?AB->(?a1X l xs)->(?a1X b zs)->(?a28 zs.length)->(?ZZ (?x (xs++zs)))->?GI
abbrev RA[?d]:R2:=?a0H ?GI
def rQ:?a35 RA X.K:=by
 ext dC;let#[l,b,xs,zs,rfl,rfl,hl,hb,hz,q]:=h;cases rx;cases ry;let ?G2:=?b2 hl;let ?M0:=?b2 hb;let#[?uY,n,ho,hc,hdd,hd]:=id p1;let#[?MN,n2,ho2,hc2,hdd2,hd2]:=id p2;ext DJ
 apply ?o4 ?l6 ?oQ noFill_list_add seq_list_add PySem.F.slot_list_add PySem.F.entry_list_add (PySem.F.args_list_add_2 _ _)
  (list_addW l b ?M its2.toArray n n2 dd dd2 sl sl2 (by rw[qc5,qc5,←r1.length,←r2.length];exact hz)) ?KE
 rw[show its.toArray++its2.toArray=(its++its2).toArray by simp];exact#[?f3,_,I.lnew (t':=s.toks) (r1.append r2) (?FL),rfl,?R3]
def PU[?cF]:Fm X (?a7 "all") (λxs H Q=>∃(p:Addr) (bs:?r ?cP),?iV/\?a4U p (bs.map V.bl)/\?a07 (bs.all id)):=by
 ext fQ;let#[p,bs,rfl,hq,q]:=h;ext WY
 have rel:∀(i:Nat) (v:Value),its.toArray[i]?=?L->∃b,?rZ=?c b/\v=?bU b:=λi v e=>by
  have e':?T0:=?qH
  have hlt:?SY:=?L4;ext DV;have hb:?rZ=?c (bs[i]' ?f2):=?bK
  let ?j0:=?a1I V.bl bs;rw[e']at hu;cases hu;exact#[_,hb,ru]
 apply call_all_walk (qr1 ?gF ?_);apply#[?s,?RN,?PN,?lN,_,_,?P3,rfl,?RO,?U7,?_,λh' tk k=>?_]
 . let ?yY:=pl;exact ?wB
 . exact pl.isList.at λo e=>?j3
 . intro i v s' Q' E' hv hQ;let#[b,hb,rfl]:=rel i v hv;dsimp only at hQ;rw[hb]at hQ;exact qk2 hQ
 . have e:(?eS ?lN).all (?P3)=bs.all id:=by
    ext DV;rw[qc5,←l1];rw[qm8,qd3,qd3];constructor
    . intro hx b hb;let ?uU:=qf1 hb;have:=hx i (qe9.mpr ?lF);rw[hi]at this;exact this
    . intro hx i hi;have hlt:=qe9.mp hi;have hb:?rZ=?c bs[i]:=?a0
      rw[hb];exact hx _ (qe4 _)
   rw[e];ext WQ;exact#[.bl (bs.all id),H,I1,rfl,q]
universe e9
structure Has[?fV][?d][?nE](x:Str)(ps:?J)(k:Nat)(sp:Sp):Prop where
 ex:∃(f:Addr) (fd:FuncData),mg x=?x4/\?pG/\?wZ/\?a38 k
section
variable{X:Cx}[?Y6][?aC]{t:TA}
def An(h:Has ?aN X.w X.K ?eJ ?dM x ps j sp)[?nT][?k5](hg:?q9:=by rfl)(hk:j<=k:=by decide)[?nC]
 [?n7] (hpl:?iJ (·.1)=false:=by rfl):?a1F ?rQ (tCall sp [] E0 t):=by
 let#[f,fd,h1,h2,h3,h4]:=h.ex;exact WE h4 (hr.mono hk) hg h1 h2 h3 ?A gP ha hdb he hpl
universe e9
def boot_intT:?a20 ?cY ?cY:=?cD
def aF:?a20 ?hZ ?hZ:=?cD
def Ig:?bC ?fE=?c (?c7):=?cD
def Ei:?bC ?dQ=?c (?b4):=?cD
def Dx:?a20 ?s0 ?s0:=?cD
def DA:?a3L "max" "max":=?cD
def pW:?a3L "min" "min":=?cD
def Ob:?a3L "all" "all":=?cD
def Bt:?a3L ?rU ?rU:=?cD
universe L2
namespace L2
open PySem PySem.Spec PyProof.Rows
section
variable{X:Cx}[?aH]{tg l:Expr}{tl:TE}{n:Nat}
def Fm.imp{X:Cx}{f:Value}{r r':?d0}(h:Fm X f r)(i:∀xs H Q,r' xs H Q->?MB):Fm X f r':=λAe s σ H xs us Q I v q=>h Ae s σ H xs us Q I v (i xs H Q q)
inductive UO[?d][?a9][?b9]:Prop
 | mk:?a4S (Q (?g ?pJ) H) ?QZ
abbrev Aw8[?d]:?d0:=?a3N ?QZ
inductive IQ[?d][?a9][?b9]:Prop
 | mk:?a4S (?ME) ?J3
abbrev VQ[?d]:?d0:=?a3N ?J3
inductive mW[?d][?a9][?b9]:Prop
 | mk:∀p ys,?rD->(((?wG/\?EM)\/(?BA/\Q ?aW H)))->?SD
abbrev Ab6[?d]:?d0:=?a3N ?SD
inductive iR[?d][?a9][?b9]:Prop
 | mk:∀x n d,(xs=[x,.ty n])->((?BU))->?jB->(?a07 (ME n d))->?RF
abbrev vR[?d]:?d0:=?a3N ?RF
inductive uQ[?d][?a9][?b9]:Prop
 | mk:∀(p:Addr) (bs:?r ?cP),?rD->(?a1X p (bs.map V.bl))->(?a07 (bs.all id))->?J2
abbrev Ax3[?d]:?d0:=?a3N ?J2
def Va[?W]:?a35 YK K:=by subst hK;exact WH
def W3[?W]:?a35 RA K:=by subst hK;exact rQ
def N4[?W]:SlR X (yJ K):=by subst hK;exact vM
def Ly[?W]:SlR X (Aw5 K):=by subst hK;exact VM
def Be[?W]:IxR X (Ax0 K):=by subst hK;exact WZ
def Bg[?W]:IxR X (Aw9 K):=by subst hK;exact Ag5
def Ax[?W]:?a0U "len" (Aw8 K):=?a4R fJ
def Fx[?W]:Fm X (?b4) (VQ K):=?a4R FI
def L1[?W]:Fm X (?c7) (Ab6 K):=by subst hK;exact(bN).imp (?a0V ?TV ?TV)
def D8[?W]:?a0U ?rU (vR K):=by subst hK;exact(II).imp (?a0V ?W6 ?W6)
def L3[?cF][?W]:?a0U "all" (Ax3 K):=by subst hK;exact(PU hc).imp (?a0V ?QV ?QV)
def Pg[?k4][?W]:?a36 K:=?a0T NZ hu
def wY[?k4][?W]:?a2T (Aw7 K n):=?a0T Ac8 hu
def oM[?k4][?W]:MtR X ?R1 (rA K n):=?a0T sJ hu
def Cd[?uE][?W]:?a2G zB K:=?a0T VZ hl
def U9[?uE][?W]:?a2G A22 K:=?a0T Ac3 hl
variable{o e:Expr}[?aC][?XD]
def G6[?WO][?W]
 [?XL]
 (hfew:(?NB
   && ?a0C 1)=true:=by rfl)
 [?YY] [?DC] (hplain:?A1 (·.1)=false:=by rfl) :
 ?a1F (?a4L o) (tBM K T r to t):=by subst hK;exact Ax7 pa slot hty hm ho ha hbase hfew hline hs hplain
def Dm[?aC]{k:Nat}{t:VC}{n:Nat}[?a4][?cF](h:?N0)[?W]
 [?Z0] (hst:?FT (·.1)=none:=by rfl):?a34 K:=by subst hK;exact Ac4 hc h hn hst
universe e9
universe L2
namespace Hb
abbrev Aw[?cH][?eD]:LLInt :=
 if ?mX then(if w.length<2 then [] else(?eS w.length).map λi=>w.take i++?xQ ?aO)
 else if ?QI then []
 else if ?eZ then(if ?IT then [[],[]] else w.map λl=>[l])
 else ?xQ 1::((?eS (?CV)).map λi=>w.take i++[(w.getD i 0+w.getD ?aO 0)%fam]++?xQ (i+2))++[w.take (?CV)]
abbrev F5[?eD][?cH]:Prop :=
 (?mX/\1<=w.length/\w.length<=4)\/(?eZ/\(?QI\/?IT\/?GR))\/(?hX/\w.length<=3)
abbrev lv[?eD][?cH]:Nat:=if ?mX then ?CV else if ?eZ then(if ?GR then 2 else w.length) else w.length
def Te[?hN][?hM](h:?aA) :
 (?mX/\((∃a,w=[a])\/(∃a b,w=?b5)\/(?xE)\/∃a b c d,w=?uS)) ∨
 (?eZ/\(w=[]\/(∃a,w=[a])\/?xE)) ∨
 (?hX/\(w=[]\/(∃a,w=[a])\/(∃a b,w=?b5)\/?xE)):=by
 rcases h with⟨h0,h1,h2⟩|⟨h0,h1⟩|⟨h0,h1⟩
 . left;apply ?wJ
   match w,h1,h2 with
   | [a],_,_=>exact ?j #[a,rfl]
   | ?b5,_,_=>exact ?i (?j #[a,b,rfl])
   | ?h3,_,_=>exact ?i (?i (?j ?BE))
   | ?uS,_,_=>exact ?i (?i (?i #[a,b,c,d,rfl]))
   | _::?yD,_,h=>simp at h
 . right;left;apply ?wJ
   match w,h1 with
   | [],_=>exact ?hW
   | [a],_=>exact ?i (?j #[a,rfl])
   | ?b5,h=>simp at h
   | ?h3,_=>exact ?i (?i ?BE)
   | ?yD,h=>simp at h
 . right;right;apply ?wJ
   match w,h1 with
   | [],_=>exact ?hW
   | [a],_=>exact ?i (?j #[a,rfl])
   | ?b5,_=>exact ?i (?i (?j #[a,b,rfl]))
   | ?h3,_=>exact ?i (?i (?i ?BE))
   | ?yD,h=>simp at h
def A67(a:Int):Aw [a] 0=[]:=rfl
def A66(a b:Int):Aw ?b5 0=[[b],[a]]:=rfl
def Ak3(a b c:Int):Aw ?h3 0=[?rR,[a,c],?b5]:=rfl
def Ak2(a b c d:Int):Aw ?uS 0=[[b,c,d],[a,c,d],[a,b,d],?h3]:=rfl
section
variable[?hN]
def A65(h:?eZ):?a3S []=[]:=?I9
def TR(h:?eZ)(a:Int):?a3S [a]=[[],[]]:=by unfold Aw;rw[?iM,?mL,?pP,?x2]
def Aj8(h:?eZ)(a b c:Int):?PU=[[a],[b],[c]]:=by unfold Aw;rw[?iM,?mL,?pP,?mL];rfl
def A63(h:?hX):?a3S []=[]:=?I9
def tQ(h:?hX)(a:Int):?a3S [a]=[[],[]]:=?zU
def eV(h:?hX)(a b:Int):?a3S ?b5=[[b],[?MI],[a]]:=?zU
def Aj7(h:?hX)(a b c:Int):?PU=[?rR,[?MI,c],[a,(b+c)%fam],?b5]:=?zU
def Ps{w f:?z}(h:?aA)(hf:f∈?bO):F5 fam f/\lv fam f+1=?hR:=by
 ext D3
 . subst h0;rw[A67]at hf;exact ?xH
 . subst h0;rw[A66]at hf;ext jW;rcases hf with rfl | rfl<;>simp[F5,lv]
 . subst h0;rw[Ak3]at hf;ext jW;rcases hf with rfl | rfl | rfl<;>simp[F5,lv]
 . subst h0;rw[Ak2]at hf;ext jW;rcases hf with rfl | rfl | rfl | rfl<;>simp[F5,lv]
 . rw[A65 h0]at hf;exact ?xH
 . rw[?l1]at hf;ext Y5;ext hE
   simp[F5,lv,h0,e]
 . rw[?wS]at hf;ext hE
   ext jW;rcases hf with rfl | rfl | rfl<;>simp[F5,lv,h0,e]
 . rw[A63 h0]at hf;exact ?xH
 . rw[?n4]at hf;ext hE
   ext nM
   ext Y5;simp[F5,lv,h0,e,e']
 . rw[?dV]at hf;ext hE
   ext nM
   ext jW;rcases hf with rfl | rfl | rfl<;>simp[F5,lv,h0,e,e']
 . rw[?yV]at hf;ext hE
   ext nM
   ext jW;rcases hf with rfl | rfl | rfl | rfl<;>simp[F5,lv,h0,e,e']
def K8[?hM](h:?aA):?U5=(if ?rF then 0 else ?hR+1)/\?hR<=3:=by
 ext D3
 . subst h0;simp[A67,lv]
 . subst h0;simp[A66,lv]
 . subst h0;simp[Ak3,lv]
 . subst h0;simp[Ak2,lv]
 all_goals ext hE
 . simp[A65 h0,lv,e,h0]
 . simp[?l1,lv,e,h0]
 . simp[?wS,lv,e,h0]
 all_goals ext nM
 . simp[A63 h0,lv,e,e']
 . simp[?n4,lv,e,e']
 . simp[?dV,lv,e,e']
 . simp[?yV,lv,e,e']
def Zi{i j:Nat}(h:i<j)(hj:j<3):?VL :=
 ?a30 3 ?VL
def MJ{i j:Nat}(h:i<j)(hj:j<4):?SV :=
 ?a30 4 ?SV
def faces_agree{w f g:?z}{i j:Nat}(h:?aA)(hl:2<=?hR)(hij:i<j)(hf:?jJ[j]?=?c f)(hg:?jJ[i]?=?c g):(?J9)[i]?=(?a3S g)[j-1]?:=by
 have hj:j<?U5:=(?f9 hf).1;ext D3
 . subst h0;simp[lv]at hl
 . subst h0;simp[lv]at hl
 . subst h0;rw[Ak3]at hf hg hj;ext DA
   . ext Q;rfl
   . ext Q;rfl
   . ext Q;rfl
 . subst h0;rw[Ak2]at hf hg hj;ext WP
   . ext Q;rfl
   . ext Q;rfl
   . ext Q;rfl
   . ext Q;rfl
   . ext Q;rfl
   . ext Q;rfl
 all_goals ext hE
 . simp[lv,e,h0]at hl
 . simp[lv,e,h0]at hl
 . rw[?wS]at hf hg hj;ext DA
   . ext Q;simp[?l1]
   . ext Q;simp[?l1]
   . ext Q;simp[?l1]
 all_goals ext nM
 . simp[lv,e,e']at hl
 . simp[lv,e,e']at hl
 . rw[?dV]at hf hg hj;ext DA
   . ext Q;simp[?n4]
   . ext Q;simp[?n4]
   . ext Q;simp[?n4]
 . rw[?yV]at hf hg hj;ext WP
   . ext Q;simp[?dV]
   . ext Q;simp[?dV]
   . ext Q;simp[?dV]
   . skip
     ext Q;simp only[?dV,List.getElem?_cons_succ,qt8,Nat.add_one_sub_one]
     congr 2
     rw[Int.add_emod_emod,Int.emod_add_emod,ql4]
   . ext Q;simp[?dV]
   . ext Q;simp[?dV]
universe e9
abbrev lev[?nW]:Nat:=p.length-1
structure Ba1[?eC][?nW]:Prop where
 cnt:p.length=0\/p.length=2\/p.length=3\/p.length=4
 low:∀f∈p,0<=f
 bel:∀f∈p,∃q,?K7/\lev q+1=lev p
 agr:3<=p.length->∀(i j:Nat) (f g:Int) (q r:?z),i<j->p[j]?=?c f->p[i]?=?c g->?K7->xs[g.toNat]?=?c r->q[i]?=r[j-1]?
abbrev Ce[?eC]:Prop:=∀(k:Nat) [?nW],xs[k]?=?c p->Ba1 (xs.take k) p
abbrev mV[?eD][?dI]:Prop:=∀(k:Nat) [?cH],?JG->?aA/\∀f∈?bO,f∈ws.take k
def mV.nil[?hN]:mV fam []:=λk w h=>?f8
def mV.snoc[?hN][?dJ][?hM][?uG](hw:?aA)(hf:?C6):mV fam (?wN):=by
 intro k v hk;by_cases hlt:k<ws.length
 . rw[qc9 hlt]at hk;rw[qq5 ?X];exact h k v hk
 . have hk':k<(?wN).length:=(?f9 hk).1;have e:k=ws.length:=by simp at hk';omega
   subst e;simp at hk;subst hk;rw[qq5 ?a8,qd2];exact#[hw,hf]
def mV.mem[?hN][?dJ][?uG][?hM](hw:w∈ws):?aA/\?C6:=by
 let#[k,hk]:=qf1 hw;let ?eK:=h k w hk;exact#[h1,λf hf=>ql6 (?p3)]
abbrev Fu[?dI]:?LQ
 | []=>ws
 | ?gG=>Fu (?v0) r
def AK:∀(rows ws:LLInt),(?kY).length<=ws.length+rows.length
 | [],ws=>by simp[Fu]
 | ?gG,ws=>by
   have h1:=AK r (?v0)
   have h2:(?v0).length<=ws.length+1:=by
    split
    . omega
    . simp
   simp only[Fu,qd6];omega
def aK[?hN]:∀(rows ws:LLInt),?TM->(∀(k:Nat) [?cH],rows[k]?=?lB->?aA/\∀f∈?bO,?iF\/f∈rows.take k)->mV fam (?kY)
 | [],ws,h,_=>h
 | ?gG,ws,h,hr=>by
   have h0:=hr 0 w rfl;have hw:?C6:=λf hf=>(h0.2 f hf).resolve_right ?G;simp only[Fu];apply aK r _ ?_ λk v hk=>?_
   . split
     . exact h
     . exact h.snoc h0.1 hw
   . let ?eK:=hr ?jO v (?A4);apply ?S6;rcases ?p3 with z | z
     . left;split
       . exact z
       . exact qn5 _ z
     . rw[List.take_succ_cons]at z;rcases ?eN z with z | z
       . left;subst z;split
         . assumption
         . simp
       . exact ?i z
abbrev Di[?dI]:?w5
 | acc,[]=>acc
 | acc,f::r=>Di ws (?CT) r
def aJ[?dJ][?kD]:∀[?nQ],?AS->?l7\/x∈fs
 | [],acc,h=>?j h
 | f::r,acc,h=>by
   rcases aJ r _ h with z | z
   . split at z
     . rcases ql0.mp z with z | z
       . exact ?f0
       . exact ?i (by simp at z;simp[z])
     . exact ?f0
   . exact ?i (qb6 _ z)
def Rj[?dJ][?kD]:∀[?nQ],?l7->?AS
 | [],acc,h=>h
 | f::r,acc,h=>Rj r _ (by split;exact qn5 _ h;exact h)
def AJ[?dJ][?kD]:∀[?nQ],x∈fs->?AI\/?AS
 | f::r,acc,h=>by
   ext nH
   . subst e;by_cases h1:?AI
     . exact ?j h1
     . right;apply Rj r _ ?_;by_cases h2:?l7
       . rw[?v (by simp[h2])];exact h2
       . rw[?D ?eK];simp
   . exact AJ r _ e
def Uf[?dJ]:∀[?nQ],?a2A ?mH fs.length
 | [],acc=>by simp[Di]
 | f::r,acc=>by
   have h1:=Uf (ws:=ws) r (?CT)
   have h2:?a2A ?CT 1:=by
    split
    . simp
    . omega
   simp only[Di,qd6];omega
abbrev below[?dI][?eD]:?w5
 | acc,[]=>acc
 | acc,?gG=>?a39 (Di ws acc ?jJ) r
def Sf[?fW][?kD]:∀[?nU],?wY->?l7\/∃w∈l,x∈?bO
 | [],acc,h=>?j h
 | ?gG,acc,h=>by
   rcases Sf r _ h with z|⟨v,hv,z⟩
   . rcases aJ _ _ z with z | z
     . exact ?f0
     . exact ?i #[w,qb3,z]
   . exact ?i #[v,?UI,z]
def aH[?fW][?kD]:∀[?nU],?l7->?wY
 | [],acc,h=>h
 | ?gG,acc,h=>aH r _ (Rj _ _ h)
def dG[?fW]{x w:?z}:∀[?nU],w∈l->x∈?bO->?AI\/?wY
 | v::r,acc,h,hx=>by
   ext nH
   . subst e;rcases AJ (ws:=ws) _ acc hx with z | z
     . exact ?f0
     . exact ?i (aH r _ z)
   . exact dG r _ e hx
def Od[?fW]:∀[?nU],(∀w∈l,?aA)->?a2A ?yS ?MG
 | [],acc,_=>by simp[below]
 | ?gG,acc,h=>by
   have h1:=Od (ws:=ws) r (Di ws acc ?jJ) λv hv=>h v (?UI);have h2:=Uf (ws:=ws) ?jJ acc;have h3:=K8 (h w qb3);simp only[below,qd6];split at h3<;>omega
def Yc[?dI](f:?z):∀[?nQ],Di ws acc (fs++[f])=(if ?PX/\f ∉ ?mH then ?mH++[f] else ?mH)
 | [],acc=>rfl
 | g::fs,acc=>Yc ws f fs _
def AG[?dI][?eD][?cH]:∀[?nU],?a39 acc (l++[w])=Di ws (?yS) ?jJ
 | [],acc=>rfl
 | v::l,acc=>AG ws fam w l _
def Yd[?cH]:∀(rows ws:LLInt),Fu ws (rows++[w])=(if w∈?kY then ?kY else ?kY++[w])
 | [],ws=>rfl
 | v::rows,ws=>Yd w rows _
abbrev Pe[?dI][?eD]:Nat->?w5
 | 0,layer,rows=>rows
 | n+1,layer,rows=>Pe ws fam n (?a39 [] layer) (layer++rows)
def CG[?fW]:∀(n:Nat) (layer rows:LLInt),(∀w∈layer,?aA/\?hR<n) →
 (∀(k:Nat) [?cH],rows[k]?=?lB->?aA/\∀f∈?bO,?iF\/f∈layer\/f∈rows.take k) →
 ∀(k:Nat) [?cH],(?VP)[k]?=?lB->?aA/\∀f∈?bO,?iF\/f∈(?VP).take k
 | 0,layer,rows,hl,hr,k,w,hk=>by
   let ?eK:=hr k w hk;ext XZ
   . exact ?f0
   . exact ?w (hl f z).2 O9m
   . exact ?i z
 | n+1,layer,rows,hl,hr,k,w,hk=>by
   apply CG n _ _ ?_ ?_ k w hk
   . intro v hv;rcases ?NC with z|⟨u,hu,z⟩
     . exact ?sR
     . let#[q1,q2]:=hl u hu;let#[q3,q4]:=Ps q1 z;exact#[q3,O9m]
   . intro m v hm;by_cases hlt:m<layer.length
     . rw[qc9 hlt]at hm;have hv:v∈layer:=qb1 hm;apply#[(hl v hv).1,?M7];rcases dG (ws:=ws) layer [] hv hf with z | z
       . exact ?f0
       . exact ?i (?f0)
     . rw[qd1 ?X]at hm;let ?eK:=hr _ v hm;ext XZ
       . exact ?f0
       . right;right;rw[List.take_append];apply qn5 _ ?_;rw[qj5 ?X];exact z
       . right;right;rw[List.take_append];exact qg6 _ z
abbrev Rn[?dI][?cH][?eD]:LLInt:=Fu ws (?LB)
def aP[?dJ][?hM][?hN][?uG](hw:?aA):mV fam (?VW):=by
 apply aK _ _ h (CG 4 [w] [] ?_ ?_)
 . intro v hv;have e:v=w:=?lK
   subst e;exact#[hw,by have:=(K8 hw).2;omega]
 . intro k v hk;simp at hk
abbrev EO[?dI](f:?z):Nat:=?z3 (·==f)
def XA[?dJ]{f:?z}(h:?iF):ws[?n3]?=?c f:=by
 unfold EO;have hl:?z3 (·==f)<ws.length:=List.findIdx_lt_length_of_exists ?OV;rw[qa0 hl];have:=List.findIdx_getElem (xs:=ws) (p:=(·==f)) (w:=hl);ext fX
def Ah0[?dJ]{f:?z}{k:Nat}(h:f∈ws.take k):?n3<k:=by
 unfold EO;let ?uU:=qf1 h;have hlt:i<(ws.take k).length:=?lF;rw[qm5]at hi;split at hi
 . rename_i hik
   have hl:i<ws.length:=?lF
   have e:ws[i]=f:=by
    rw[qa0 hl]at hi;exact qa8 hi
   have hle:?z3 (·==f)<=i:=by
    refine qg9;intro hgt;have:=List.not_of_lt_findIdx hgt;simp[e]at this
   omega
 . cases hi
abbrev Os[?dI][?eD]:LLInt:=ws.map λw=>?qI ?yZ
def GF[?fW]{k:Nat}[?hM](h:?JG):(?z4)[k]?=?c (?qI ?yZ):=by
 unfold Os;rw[qb0,h];rfl
def AR[?fW][?uG]:Ce (?z4):=by
 intro k p hp;unfold Os at hp;rw[qb0]at hp;cases hw:ws[k]? with
 | none=>rw[hw]at hp;cases hp
 | some w =>
   rw[hw]at hp;have xC:?qI (?yZ)=p:=by simpa using hp
   subst xC;let ?eK:=h k w hw;let#[n1,n2]:=K8 h1
   have look:∀f∈?bO,((?z4).take k)[((?n3:Nat):Int).toNat]?=?c ((?J9).map λg=>(EO ws g:Int)):=λf hf=>by
    have hm:=?p3;have hlt:=Ah0 hm;rw[qf9,qm5,?D hlt];exact GF (XA (ql6 hm))
   apply#[?_,?_,?_,?_]
   . rw[qa4];by_cases hz:?rF
     . rw[?D hz]at n1;omega
     . rw[?uJ]at n1;omega
   . intro f hf;let#[g,_,rfl]:=?JB;omega
   . intro f hf;let#[g,hg,rfl]:=?JB;apply#[_,look g hg,?_];let#[w1,l1]:=Ps h1 hg;let#[m1,_]:=K8 w1;unfold lev;rw[qa4,qa4];have hz:¬?rF:=O9m
     rw[?uJ]at n1;by_cases hy:lv fam g=0
     . rw[?D hy]at m1;omega
     . rw[?v hy]at m1;omega
   . intro hl i j f g q r hij hf hg hq hr;rw[qa4]at hl;rw[qb0]at hf hg;cases ef:(Aw w fam)[j]? with
     | none=>rw[ef]at hf;cases hf
     | some F =>
       cases eg:(Aw w fam)[i]? with
       | none=>rw[eg]at hg;cases hg
       | some G =>
         rw[ef]at hf;rw[eg]at hg;have ef':((EO ws F:Nat):Int)=f:=by simpa using hf
         have eg':((EO ws G:Nat):Int)=g:=by simpa using hg
         subst ef' eg';rw[look F (qb1 ef)]at hq;rw[look G (qb1 eg)]at hr;cases hq;cases hr;have hz:¬?rF:=by intro z;rw[?D z]at n1;omega
         rw[?uJ]at n1;rw[qb0,qb0,faces_agree h1 ?X hij ef eg]
def JY[?fW][?hM](hw:?aA):(?LB).length<=85:=by
 have step:∀l:LLInt,(∀v∈l,?uX)->(?FO).length<=?MG/\∀v∈?FO,?uX:=λl hl=>by
  apply#[by have:=Od (ws:=ws) l [] hl;ext fX,λv hv=>?_];rcases ?NC with z|⟨u,hu,z⟩
  . exact ?sR
  . exact(Ps (hl u hu) z).1
 have s0:∀v∈[w],?uX:=λv hv=>by
  have e:v=w:=?lK
  subst e;exact hw
 let#[a1,b1]:=step _ s0;let#[a2,b2]:=step _ b1;let#[a3,b3]:=step _ b2;simp only[Pe,qc6,qm7,qd6]at a1 a2 a3 ⊢;omega
section
variable{xs:LLInt}
universe e9
universe Hb
namespace L2
inductive Ea{A0:Type}(p:A0->Prop):Prop
 | mk (x0:A0) (x:p x0):Ea p
inductive Ko{A0 A1:Type}(p:?ZX A0 A1):Prop
 | mk (x0:A0) (x1:A1) (x:p x0 x1):Ko p
inductive Nl{A0 A1 A2:Type}(p:A0->?ZX A1 A2):Prop
 | mk (x0:A0) (x1:A1) (x2:A2) (x:p x0 x1 x2):Nl p
inductive Tb{A0 A1 A2 A3:Type}(p:A0->A1->?ZX A2 A3):Prop
 | mk [?tS] (x:p x0 x1 x2 x3):Tb p
inductive Ye{A0 A1 A2 A3 A4:Type}(p:A0->A1->A2->?ZX A3 A4):Prop
 | mk [?tS] (x4:A4) (x:p x0 x1 x2 x3 x4):Ye p
inductive lG{A0 A1 A2 A3 A4 A5:Type}(p:A0->A1->A2->A3->?ZX A4 A5):Prop
 | mk [?tS] (x4:A4) (x5:A5) (x:p x0 x1 x2 x3 x4 x5):lG p
inductive zR{A0 A1 A2 A3 A4 A5 A6:Type}(p:A0->A1->A2->A3->A4->?ZX A5 A6):Prop
 | mk [?tS] (x4:A4) (x5:A5) (x6:A6) (x:p x0 x1 x2 x3 x4 x5 x6):zR p
inductive vD{A0 A1 A2 A3 A4 A5 A6 A7:Type}(p:A0->A1->A2->A3->A4->A5->?ZX A6 A7):Prop
 | mk [?fM] (x:p x0 x1 x2 x3 x4 x5 x6 x7):vD p
inductive Ex9{A0 A1 A2 A3 A4 A5 A6 A7 A8:Type}(p:A0->A1->A2->A3->A4->A5->A6->?ZX A7 A8):Prop
 | mk [?fM] (x8:A8) (x:p x0 x1 x2 x3 x4 x5 x6 x7 x8):Ex9 p
inductive QC{A0 A1 A2 A3 A4 A5 A6 A7 A8 A9:Type}(p:A0->A1->A2->A3->A4->A5->A6->A7->?ZX A8 A9):Prop
 | mk [?fM] (x8:A8) (x9:A9) (x:p x0 x1 x2 x3 x4 x5 x6 x7 x8 x9):QC p
inductive LG{A0 A1 A2 A3 A4 A5 A6 A7 A8 A9 IU:Type}(p:A0->A1->A2->A3->A4->A5->A6->A7->A8->?ZX A9 IU):Prop
 | mk [?fM] (x8:A8) (x9:A9) (Sg:IU) (x:p x0 x1 x2 x3 x4 x5 x6 x7 x8 x9 Sg):LG p
inductive xZ{A0 A1 A2 A3 A4 A5 A6 A7 A8 A9 IU uW:Type}(p:A0->A1->A2->A3->A4->A5->A6->A7->A8->A9->?ZX IU uW):Prop
 | mk [?fM] [?tT] (x:p x0 x1 x2 x3 x4 x5 x6 x7 x8 x9 Sg zW):xZ p
inductive Am8{A0 A1 A2 A3 A4 A5 A6 A7 A8 A9 IU uW zT:Type}(p:A0->A1->A2->A3->A4->A5->A6->A7->A8->A9->IU->?ZX uW zT):Prop
 | mk [?fM] [?tT] (x12:zT) (x:p x0 x1 x2 x3 x4 x5 x6 x7 x8 x9 Sg zW x12):Am8 p
inductive Ba3{A0 A1 A2 A3 A4 A5 A6 A7 A8 A9 IU uW zT A13:Type}(p:A0->A1->A2->A3->A4->A5->A6->A7->A8->A9->IU->uW->?ZX zT A13):Prop
 | mk [?fM] [?tT] (x12:zT) (x13:A13) (x:p x0 x1 x2 x3 x4 x5 x6 x7 x8 x9 Sg zW x12 x13):Ba3 p
inductive Ba2{A0 A1 A2 A3 A4 A5 A6 A7 A8 A9 IU uW zT A13 A14 A15 A16 A17 A18:Type}(p:A0->A1->A2->A3->A4->A5->A6->A7->A8->A9->IU->uW->zT->A13->A14->A15->A16->?ZX A17 A18):Prop
 | mk [?fM] [?tT] (x12:zT) (x13:A13) (x14:A14) (x15:A15) (x16:A16) (x17:A17) (x18:A18) (x:p x0 x1 x2 x3 x4 x5 x6 x7 x8 x9 Sg zW x12 x13 x14 x15 x16 x17 x18):Ba2 p
inductive Ba6(p0 p1:Prop):Prop
 | mk (x:p0) (x:p1):Ba6 p0 p1
inductive Ev(p0 p1 p2:Prop):Prop
 | mk [?u3]:Ev p0 p1 p2
inductive By(p0 p1 p2 p3:Prop):Prop
 | mk [?u3] (x:p3):By p0 p1 p2 p3
inductive C9(p0 p1 p2 p3 p4:Prop):Prop
 | mk [?u3] (x:p3) (x:p4):C9 p0 p1 p2 p3 p4
inductive Hz(p0 p1 p2 p3 p4 p5:Prop):Prop
 | mk [?u3] (x:p3) (x:p4) (x:p5):Hz p0 p1 p2 p3 p4 p5
inductive Nm(p0 p1 p2 p3 p4 p5 p6:Prop):Prop
 | mk [?h8]:Nm p0 p1 p2 p3 p4 p5 p6
inductive fQ(p0 p1 p2 p3 p4 p5 p6 p7:Prop):Prop
 | mk [?h8] (x:p7):fQ p0 p1 p2 p3 p4 p5 p6 p7
inductive V5(p0 p1 p2 p3 p4 p5 p6 p7 p8:Prop):Prop
 | mk [?h8] (x:p7) (x:p8):V5 p0 p1 p2 p3 p4 p5 p6 p7 p8
inductive DH(p0 p1 p2 p3 p4 p5 p6 p7 p8 p9:Prop):Prop
 | mk [?h8] (x:p7) (x:p8) (x:p9):DH p0 p1 p2 p3 p4 p5 p6 p7 p8 p9
inductive ZS(p0 p1 p2 p3 p4 p5 p6 p7 p8 p9 yM:Prop):Prop
 | mk [?h8] (x:p7) (x:p8) (x:p9) (x:yM):ZS p0 p1 p2 p3 p4 p5 p6 p7 p8 p9 yM
inductive uV(p0 p1 p2 p3 p4 p5 p6 p7 p8 p9 yM p11 p12 p13:Prop):Prop
 | mk [?h8] [?YH]:uV p0 p1 p2 p3 p4 p5 p6 p7 p8 p9 yM p11 p12 p13
inductive zS(p0 p1 p2 p3 p4 p5 p6 p7 p8 p9 yM p11 p12 p13 p14 p15:Prop):Prop
 | mk [?h8] [?YH] (x:p14) (x:p15):zS p0 p1 p2 p3 p4 p5 p6 p7 p8 p9 yM p11 p12 p13 p14 p15
universe L2
namespace Hb
open PySem L2
abbrev Xj[?hJ](k:Int):Int:=?q7 ?oJ 0
noncomputable abbrev LT[?d](H:Hp)(v:V)[?eC]:Prop:=?a1Y v (?x ?fI)
noncomputable abbrev TI[?d](H:Hp)(v:V)[?hJ]:Prop:=?a1Y v (tI ns)
section
variable[?aH][?eF]
def TI.sq{v:V}[?hK](h:?AA):∃a,?jM/\?VF:=by
 ext u5;rw[Fg.mp r]at q;exact#[a,e,q]
def TI.mk[?aJ][?hK](h:?VF):TI K H ?bF ns:=#[a,_,rfl,h,?RE]
def TI.same{v:V}[?hK](s:?c6)(h:?AA):?SK:=?W3 s h
def TI.t{v:V}[?hK](s:?mB)(h:?AA):?SK:=Rep.t s (tG ns) h
def Vt[?a9](k:Nat):Kb xs ?a5 (?c ?i2)=xs.take k:=by
 unfold Kb;rw[HT.sIx_none,HT.sIx_nat,qx8,List.drop_zero,List.take_eq_take_iff];omega
def Rg[?a9](k:Nat):Kb xs (?c ?i2) ?a5=?v8 k:=by
 unfold Kb;rw[HT.sIx_none,HT.sIx_nat];by_cases h:k<=xs.length
 . rw[Nat.min_eq_left h,qj5 (by rw[qj3];omega)]
 . rw[Nat.min_eq_right ?X,List.drop_length,List.drop_of_length_le ?X];simp
def nW{D:Addr}{ys:?o}{v:V}{d:L2.D}{ds:?sP}(hD:H D=?c ?f4)(r:?a2V ys ds)(rv:?eO)(hi:imms (ds++[d])=true):?S K (?a06 D (?x (ys++[v]))) (ys++[v]) (ds++[d]) :=
 (r.snoc rv).t (V1.lst hD) hi
def O8{D:Addr}{ys:?o}{v:V}{xs:LLInt}[?kD](hD:H D=?c ?f4)(r:?a2V ys ?fI)(rv:?a3H x):?S K (?a06 D (?x (ys++[v]))) (ys++[v]) ((xs++[x]).map tI):=by
 have e:(xs++[x]).map tI=?xY++[tI x]:=?a0
 have h:=r6 (xs++[x]);rw[e]at h ⊢;exact nW hD r rv h
abbrev SameX(B:Addr)(H H':Hp):Prop:=∀b o,b≠B->?JU
def SameX.refl(B:Addr)(H:Hp):?kL B H H:=λ_ _ _ h=>h
def SameX.trans{B:Addr}{H H1 H2:Hp}[?u8](b:?kL B H1 H2):?kL B H H2:=λc o n h=>b c o n (a c o n h)
def SameX.of[?EG](a:?uN):?SI:=λc o _ h=>a c o h
def SameX.upd[?EG]{o:HO}[?u8]:?kL B H (upd H1 B o):=λc u n h=>by rw[Al n];exact a c u n h
def SameX.t[?EG]{us:?o}[?u8](h:H B=?uP):V1 H H1 :=
 #[λb xs e=>?VG,λb o u e=>?VG]
def SameX.same{B:Addr}{H0 H H1:Hp}[?u8](s:?e7 H0 H)(h:H0 B=none):?e7 H0 H1:=λb o e=>a b o (Aq e h) (s b o e)
def Oa:∀ns:?z,deps ?iX=0
 | []=>rfl
 | n::ns=>by show max (dep (?rN)) (deps ?iX)=0;rw[Oa ns];rfl
def Rf:∀xs:LLInt,deps ?fI<=1
 | []=>?lC
 | ?mR=>by
   have h1:=Rf xs;have h2:dep (tI x)=1:=by show deps (E4 x)+1=1;rw[Oa]
   show max (dep (tI x)) (deps ?fI)<=1;omega
def Ue(f:?z):∀xs:LLInt,(?xY).any (λe=>eqD e (tI f))=?q (f∈xs)
 | []=>rfl
 | ?mR=>by
   rw[qc8,qn2,Ue f xs,TU];by_cases h:x=f
   . subst h;simp
   . have h':¬f=x:=λz=>h z.symm;simp[h,h']
def eO[?E6](hc:c)(h:A):?uZ:=by rw[?D hc];exact h
def Hg[?E6](hc:¬c)(h:B):?uZ:=by rw[?v hc];exact h
def neI{a b:Int}(h:¬a=b):?RY:=?uQ
def eqI{a b:Int}(h:a=b):¬?RY:=?uQ
def isI{a b:Int}(h:a=b):?q (?bE a=?bE b)=true:=?uQ
def Cs{g:TG}[?hA][?fR][?dB][?DI]
 [?WI]
 [?jV]:?ZN ?rE NN:=?a14 cY
def Xh{g:TG}[?hA][?fR][?dB][?Y1]
 [?WI]
 [?jV]:?ZN ?oL NN:=?a14 UC
def Kc{g:TG}[?hA]{lo:Int}{n:Nat}[?dB]
 (hs:?a26 ?RI)
 [?Z8]:?ZN (?iR) NN:=kW Pv h0 (λi ys τ H e p=>hs i ys τ H e p) hd
def Am[?DM][?DS][?XB]:?t3:=h hu
def qy1[?DM][?XB][?DS]:?t3:=h hu
def Ew[?DM][?DS](h:(?GS)->?t3):?t3:=h hu
def kI{f:?z}:∀[?dJ],?iF->?a1Q ?c ?n3:=λ{ws} h=>by
 have e:?a1Q ws.findIdx? ?S9:=by
  rw[List.findIdx?_map]
  congr 1
  funext w
  show eqD (tI w) (tI f)=(w==f)
  rw[TU];by_cases z:w=f
  . subst z;simp
  . simp[z]
 rw[e,List.findIdx?_eq_some_of_exists (xs:=ws) (p:=?S9) ?OV];rfl
def small{n:Nat}(h:?MA):n<sizeLine:=qc1 h ?bN
def Cb{n:Nat}(h:?MA):?JA:=qe5 (small h)
universe e9
section
variable[?d]
abbrev jC:Sp:=λvs H Q _=>Nl λ ?m9 ?G8 ?i2=>C9 (vs=[?aD,?g k]) (?s4) (0<=k) (ns.length<=63) (Q (?g (Xj ns k)) H)
abbrev gB:Sp:=λvs H Q _=>Nl λ(v:V) (w:?z) ?MU=>By (vs=[v,?w6]) (?a3H w) (?aA) (∀(p:Addr) (us:?o) (H':Hp),?aS->?c6->?O8->?S K H' us (?qI tI)->?kT)
abbrev JB:Sp:=λvs H Q _=>Nl λ(c fam letters:Int)=>C9 (vs=[?g c,?w6,?g letters]) (0<letters) (letters<100) (fam<100) (∀(v:V) (H':Hp) [?cH],?c6->TI K H' v w->?aA->?n2)
abbrev aQ:Sp:=λvs H Q _=>lG λ(l:Addr) (us:?o) (v:V) (ws:LLInt) (w:?z) ?MU=>Nm (vs=[?oR,v,?w6]) (H l=?uP) (?a2V us (ws.map tI)) (?a3H w) (?aA) (ws.length<=100) (∀(p:Addr) (us':?o) (H':Hp),?aS->?c6->H' p=?c (?x us')->?S K H' us' ((?VW).map tI)->?kT)
abbrev gA:Sp:=λvs H Q _=>Tb λ ?m9 ?G8 (kind most:Int)=>Hz (vs=[?g kind,?aD,?g most]) (?s4) (ns.length<=63) (0<=most) (most<=100) (∀(p:Addr) (us:?o) (H':Hp) [?eC],?aS->?c6->?O8->?S K H' us ?fI->Ce xs->?lD<=most->?kT)
universe e9
abbrev K9(d:L2.D):Bool:=ME ?cY d&&!ME ?hZ d
abbrev belowD(d:L2.D)(b:Int):Bool:=match d with
 | ?I=>?NT&&?q (i<b)
 | _=>false
abbrev De(n:Nat):Int:=if (0:Int) > ?aR-1 then 0 else ?aR-1
abbrev D5[?eC](d:L2.D)(l:Int):Bool:=match d with
 | ?I=>?NT&&?q (i<?lD)&&?q (De (?HS).length=l)
 | _=>false
abbrev Vy[?eC][?nW](j i:Nat):Bool:=?q (?a3W j i=?a3W i (j-1))
abbrev Ng[?eC][?nW]:Bool:=(?eS p.length).all λj=>(?eS j).all λi=>Vy xs p j i
abbrev YD:L2.D->Int
 | ?I=>i
 | _=>0
abbrev FG(n:Nat):Bool:=n==0 || n==2 || n==3 || n==4
abbrev y8[?eC](d:L2.D):Bool:=match d with
 | ?gH=>?TB
 | _=>false
def Sb[?eC](ds:?sP):y8 xs (?gH)=(?TB):=rfl
def xO{n:Nat}(h:FG n=true):n<=4/\n≠1:=by
 unfold FG at h;simp only[qs1,qx3]at h;omega
section
variable[?d]
abbrev J0:Sp:=λvs H Q _=>Ko λ ?oE ?sS=>Ev ?G3 ?jB (?a07 (K9 d))
noncomputable abbrev Oq:Sp:=J0 K
abbrev Ij:Sp:=λvs H Q _=>Nl λ ?oE ?sS (b:Int)=>Ev (vs=[x,?kV]) ?jB (?a07 (belowD d b))
abbrev F8:Sp:=λvs H Q _=>Ko λ ?oE (ds:?sP)=>Ev ?G3 (A87 K H x ds) (Q (?g (?zH)) H)
abbrev F9:Sp:=λvs H Q _=>Ye λ ?m9 ?oE ?sS (l:Int) ?xS=>By (vs=[?aD,x,?g l]) (?mJ) ?jB (?a07 (D5 xs d l))
abbrev Qd:Sp:=λvs H Q _=>Tb λ ?m9 (v:V) ?xS (p:?z)=>Hz (vs=[?aD,v]) (?mJ) (?TA) (p.length<=4) ((∀f∈p,0<=f/\f<?lD/\(?oP f.toNat []).length+1=p.length)) (?a07 (Ng xs p))
abbrev LQ:Sp:=λvs H Q _=>Tb λ ?m9 (th:V) ?sS ?xS=>By (vs=[?aD,th]) (?mJ) (?a1Y th d) (∀H',?c6->Q (.bl (y8 xs d)) H')
noncomputable abbrev Uu:Sp:=jC K
noncomputable abbrev Mt:Sp:=gB K
noncomputable abbrev Ut:Sp:=JB K
noncomputable abbrev P0:Sp:=aQ K
noncomputable abbrev Sx:Sp:=gA K
universe e9
section
variable[?aH]{H:Hp}
def IW{d:L2.D}(h:K9 d=true):∃i,d=?I:=by
 cases d<;>simp[K9,ME]at h;exact ?bV
def LT.get[?aJ]{xs:LLInt}{i:Int}(h:?mJ)(h0:?iH)(h1:i<?lD):∃us v,?TR/\BP us i=?L/\?a3H (?HS):=by
 let ?JN:=h;cases e;let ?ER:=qp3 h0;have hj:?AY:=O9m
 have e:?fI[j]?=?c (tI xs[j]):=by rw[qb0,?B5];rfl
 let#[v,hv,tv]:=?j6 e;apply#[us,v,hq,Bo hv,?_];rw[qf9,qa1,?B5];exact tv
def LT.len[?aJ]{xs:LLInt}(h:?mJ):∃us,?TR/\?a3Z us.length:=by
 let ?JN:=h;cases e;exact#[us,hq,by have:=r.length;ext fX]
def TI.get{v:V}{p:?z}{i:Int}(h:?TA)(h0:?iH)(h1:i<(p.length:Int)):∃a,?jM/\?a33 a (p.map ?bE)/\BP (p.map ?bE) i=?c (?g (?wA ?zL 0)):=by
 let#[a,e,hq]:=h.sq;apply#[a,e,hq,?_];let ?ER:=qp3 h0;have hj:j<p.length:=O9m
 apply Bo ?_;rw[qb0,?B5];simp[hj]
def EG(n:Nat):De n=((n-1:Nat):Int):=by unfold De;split<;>omega
def iN{xs:LLInt}{l:Int}:∀{ds:?sP},ds.all (λe=>D5 xs e l)=true->ds=E4 (ds.map YD)
 | [],_=>rfl
 | ?gA,h=>by
   simp only[List.all_cons,qb7]at h;cases d with
   | int i =>
     show L2.D.int i::ds=L2.D.int i::E4 (ds.map YD);rw[←iN h.2]
   | _=>simp[D5]at h
universe e9
universe Hb
namespace L2
open PySem PySem.Spec PyProof.Rows
section
variable[?nA]{xc:Str}[?B]{C c:Addr}[?dF]
universe e9
section
variable[?nA]{xc:Str}[?ZB][?a4][?kC]{te:TE}
universe e9
section
variable{fs:?aV}[?eF]{h B h' h2:Heap}
universe e9
noncomputable abbrev XJ:=?aE->OAddr->?F
section
variable[?uI]{σ:St}[?eF]{s s':Shared}{e:Addr}{cls a0:Value}{dx:OAddr}
universe e9
section
variable[?cE][?nF]{N:?J}[?Z2][?E]{outer:?cO}[?b1]{H:Hp}{E:XK}
universe e9
section
variable{X:Cx}{J:XJ}[?Y6][?aC]{t:TA}
universe e9
universe L2
namespace L2
open PySem PySem.Spec PyProof.Rows PySem.W
section
variable{X:Cx}{Ae pn:Bm}[?nV][?b1]{J:XJ}
universe e9
section
variable{X:Cx}{th:Ends->XJ}
universe e9
section
variable[?k3][?E][?a3][?aQ]{g:?jH GenState}{d:Drawn}{t:Nat}{os:OsState}{a C:Addr}{o:Obj}{K:Frag}
universe e9
section
variable{X:Cx}{K:Frag}
universe e9
universe L2
namespace L2
open PySem PySem.Spec PyProof.Rows
def Bn.tupN{X:Cx}[?B]{h':Heap}[?eH][?dF]{x y:V}{u v:Value}[?f](kk:∀c o,?GO->?LY)[?hB](hl:?LI)
 (ht:?yU=?c { cls:=?c7,data:=?Y #v[u,v] }) (ru:?cB) (rv:?AX):?ZR (?vT) ?kO/\∀b∈fp,upd H ?s ?qL b=none:=by
 have hfresh:?lO:=?vN;ext X2
 have rX:∀c o,H c=?n->upd H ?s ?qL c=?n:=λc o e=>(Al (Aq e hfresh)).trans e
 apply#[Bn.step (s:=s) (h':=h') (t':=t') (H':=?vT) I (g':=s.gens) (d':=s.drawn) (ch:=fp) (?HK) (λc o _ _ hc e _=>?wE) (λc o _ _ hc e _=>#[?AW,?wE]) (λc o hc e n=>?_) (λc o hc e=>#[o,?wE])
  (λc zs e=>?AV) (λc o w' e=>?AV) (λc ps e=>#[#v[],by rw[?AV];simp]) (λm hm=>?_) (λc w' e=>?_) ?bY,?HK]
 . have f:=hf c hc;ext YC
 . rw[Al (qe2 ?dP)];exact n
 . let ?NG:=hm;exact#[o,es',ep,kk _ o (λq=>(hf _ q).2.1 rfl) ho,r]
 . by_cases hcs:?a3E c
   . subst hcs;rw[Ab]at e;cases e;exact#[(by show(2:Nat)<=sizeLine;decide),[u,v],?H ru (?H rv ?A),#[_,ht,rfl,rfl,_,rfl]]
   . rw[Al hcs]at e;apply(?b8 c w' e).stay (λc' y' hc' q=>?_) (λc' q=>?K0) λc' zs q=>?K0;rcases hc' with rfl | hc'
     . exact ?a2H kk e
     . exact ?a2H kk hc'
 . let ?UO:=hl c hc;rw[Al (qe2 ?dP)];exact(hf c hc).1
def K6[?aQ]{j t:Addr}{n:Nat}(g:?gP j t n):∃o,?a29 j:=by
 let#[o,q,_,d]:=g;exact#[o,q,?V0]
def y9[?aQ]{e it:Addr}{i:Int}{old:Value}(h1:?a3K h i)(h2:∃o,?a29 it):∀b∈?kW,?RC:=λb hb=>by
 rcases ?eN hb with rfl | hb
 . exact#[_,h1,λv z=>by cases (show ?v4 from z)]
 . rw[?R9];exact h2
def Bn.fp2{X:Cx}[?B][?f]:∀b∈[?fF,s.heap.objs.size],?mO:=λb hb=>by
 have lb:?IV:=by
  rcases ?eN hb with rfl | hb
  . exact ?sA
  . rw[?R9];exact ?dS
 exact I.fpOk lb (?jD lb)
abbrev IteG(S:?s8)[?bR]:It :=
 #[?a27 ?e9,λi H x H'=>∃p v,?aS/\x=?dO/\H'=?a06 p (?N [?I,v])/\∀xs,?e9->xs[i]?=?L,?a2R ?e9]
def cU{X:Cx}[?B][?a3][?aC][?k9]{e it:Addr}{i:Nat}{old:Value}{x:V}[?aI][?Z4]
 (hne:e≠it) [?f] (hf:∀b∈?kW,?mO) (h1:?a3K ?t ?iK) (h2:∃o,?W0/\?d2) (ru:?cB)
 (hout:IsEnumOut h' e it (?iK+1) u ?s) (htup:?yU=?a1Z i) (hk:∀b o,?rY->?QC)
 (hT:∀h3,?PT->(∃old,?a3K h3 (?iK+1))->T h3) (hY:?lO->Y ?fG (?a06 ?s (?N [?I,x]))) :
 ∃r,?RA/\?e ?k X.A (?oN ?j2 (?l e) r) (?a2K ?kW) E { s with heap:=h',toks:=?q3 }:=by
 apply#[_,rfl,wpAny_letOwnedTupleGo_enum hout λh3 hen S4=>?_]
 replace S4:?PT:=S4
 have lte:?a3F e:=qc3 h1;have ht3:h3.get? ?s=?a1Z i:=(?d7 _ (qm6 lte)).trans htup;let ?PV:=I.tupN (t':=?q3) (fp:=?kW) (x:=?I) (y:=x) (λb o hb z=>(?d7 b (λq=>hb (q▸ ?hQ))).trans (hk b o (λq=>hb (q▸ ?hQ)) (λq=>hb (q▸ ?UX)) z)) hf (y9 h1 h2) ht3 ?bV ru;exact#[?f3,_,I3,rfl,hY ?kS,hT h3 S4 ?I3,hn3]
section
variable[?kC][?hA]{S:?s8}
def KW[?aJ][?bA][?dB](hl:?a1K ?e9)
 [?WC]
 [?jV]:?ZN (?qG) tc:=by
 ext D7;rintro i m ys τ H ⟨rfl,hi,pp⟩;have q:=hl i ys τ H hi pp;ext k1
 . ext D5;let ?JD:=y;exact hs i v ys τ _ p ?rT pp hp
 . ext k2
   subst e;exact ?j #[?rS,hd ys τ H pp]
def CP[?aJ][?bA][?n8](hl:?a15 ?eR ?e9)
 [?WF] :
 ∃W:?f1,?g6/\∀i m σ H,?eW →
   ?a4I ?qG (?ZK ?qG ?qG):=by
 ext D9;rintro i m σ H ⟨rfl,hi,pp⟩;have q:=?PQ;ext k1
 . ext D6;let ?JD:=y;exact hs i v σ _ p ?rT pp hp
 . ext k2
   subst e;exact ?j #[?rS,?UY]
universe e9
abbrev Ite[?d][?bR]:It:=IteG (SqL K) a
def nH[?cE][?aC][?k9](a e it:Addr)(hne:e≠it):Xn P w K ?j2 (?iL) ?kW e (λi h=>(∃old,?a3K h ?iK)/\?NI) where
 mem:=?hQ
 obj:=λi h ?m8=>y9 h1 ?sX
 keep:=λi h h' ?m8 k=>#[#[old,k e (?hQ) _ h1],h2.at λo z=>k it (?UX) o z]
 item:=by
  ext d9;let ?m8:=st;ext X8;exact wpAny_pyNext_enum_item h1 h2 ?a1 (x:=u) ?pY hne λh' hout oS htup hsz hk=>cU (i:=i) (Y:=(Ite X.K a).yld i H) (T:=λh=>(∃old,?lM h e it ((i+1:Nat):Int) old)/\?gP it a ?aO) hne I hf h1 ?sX ru hout htup hk (λh3 S4 he=>#[he,oS.at λo z=>(?d7 it hne.symm).trans z]) λhn=>#[_,x,hn,rfl,rfl,?N5]
 done:=by
  ext d9;let ?m8:=st;ext YE;ext h9;have hl:=rv.length;exact wpAny_pyNext_enum_end ?e8 h1 h2 ?a1 ?m6 λh' eb=>#[rfl,?a0Q (λb o hb z=>eb b o hb z)]
 self:=λ_ _ _ _ _ st h=>by
  let ?m8:=st;exact qu6 h1 h
inductive uT[?d][?tP]:Prop
 | mk:∀a,(vs=?e3)->?a31 (?iL) ?O9
abbrev A26[?d](ta:TA):TI:=?a0A ?O9
def Yy:?a20 ?gL ?gL:=?cD
def U3{X:Cx}[?aH][?aC][?k9]{a:Expr}{ta:TA}{p pos:Pos}(hg:Gl X ?gL)(hm:?eJ ?gL=none)(ha:?OS)[?W][?YB]:PI X ?j2 (?a0M ?gL [a]) (A26 K ta):=by
 subst hK;intro Ae s σ H R I h;apply Call_ (M7 I hg hm Yy (qh1 (Dz (ha pos Ae s σ H _ I h) λus s1 _z=>?_) hs rfl));let#[vs,H1,I1,r1,q1]:=_z;let#[l,e,#[xs,hq],q]:=q1;subst e;cases r1 with
 | cons r rr =>
   cases rr;cases r;let ?GH:=?qN hq;apply call_enumerate_list ?gF λh' hen hit hsz hk=>?_;apply qu6 hen #[?CY,[?CY,s1.heap.objs.size],_,_,H1,rfl,?SZ,nH l _ _ (qu2 _),#[?I3,hit],I1.fp2,q]
section
variable[?kC][?hA]
def CY[?fR][?dB][?DI]
 [?WC]
 [?jV]:?ZN (?iL) tc:=KW Pv h0 hl hs hd
def y7[?fR][?n8][?YG]
 [?WF] :
 ∃W:?f1,?g6/\∀i m σ H,?eW →
   ?a4I ?iL (?ZK ?iL ?iL):=CP Pv h0 hl hs hd
universe e9
def Bn.turnedN{X:Cx}[?B]{h':Heap}[?eH][?dF][?f](k:∀b o,b ∉ fp->?OT)[?hB] :
 ?BX:=by
 ext X2
 apply ?sF (g':=s.gens) (d':=s.drawn) (ch:=fp) (?gC) (?a1C ?yF) (?a1C #[?AW,?yF]) (λ_ _ _ _ n=>n)
  (λb o hc e=>#[o,?yF]) (λ_ _ e=>e) (λ_ _ _ e=>e) (λb ps e=>#[#v[],by rw[e];simp]) (λm hm=>?_) (λb u e=>?_) ?bY
 . have f:=?rJ;ext YC
 . let ?NG:=hm;exact#[o,es',ep,k _ o (λz=>(hf _ z).2.1 rfl) ho,r]
 . apply ?IA (λc y hc' q=>?_) (λc q=>q) λc ys q=>q;rcases hc' with rfl | hc'
   . exact ?a2H k e
   . exact ?a2H k hc'
def Ad4{c z TI TO i1 i2:Addr}(h:c ∉ ?f6):c≠z/\c≠TI/\c≠TO/\c≠i1/\c≠i2:=by
 simpa only[qd9,qj2,or_false,not_or]using h
def A84{p:?NE}[?EC](h1:p z)(h2:p TI)(h3:p TO)(h4:p i1)(h5:p i2):?ND:=λc hc=>by
 simp only[qd9,qj2,or_false]at hc;rcases hc with rfl | rfl | rfl | rfl | rfl<;>assumption
def of5{p:?NE}[?EC](h:?ND):p z/\p TI/\p TO/\p i1/\p i2:=#[?l9,?l9,?l9,?l9,?l9]
def DI[?aQ][?EC]{a b c d e:Value}(h1:?a2Q h e)(h2:?e6 h TI a b)(h3:?wI)(h4:∃o,?a29 i1)(h5:∃o,?a29 i2):∀c∈?f6,∃o,?a29 c :=
 A84 #[_,h1,λv q=>by cases (show ?v4 from q)] #[_,h2,?T2] #[_,h3,?T2] h4 h5
def FT{X:Cx}[?B][?a3][?aC][?k9]{a b z TI TO i1 i2:Addr}{x y:V}{u v u0 v0:Value}[?Z4]
 [?ZF] [?f] (hf:∀b∈?f6,?mO) (hz:?a2Q ?t ?aK) (hTI:?a1M ?t) (hTO:?e6 ?t TO u0 v0)
 (h4:∃o,?aU i1=?n/\?d2) (h5:∃o,?aU i2=?n/\?d2) (ru:?cB) (rv:?AX)
 (hz':?a2Q h' (rawInt ?s)) (TN:?e6 h' TO u v) (htup:?e6 h' ?s u v) (hk:∀c o,c≠z->c≠TO->c≠i1->c≠i2->?LY)
 (hT:∀h3,?NJ->?a2Q h3 ?aK->?a1M h3->(∃c d,?e6 h3 TO c d)->T h3) (hY:?lO->Y ?fG (?vT)) :
 ∃r,?RA/\?e ?k X.A (?oN ?j2 (?l z) r) (?a2K ?f6) E ?i6:=by
 apply#[_,rfl,wpAny_letOwnedTupleGo_zip hz' λh3 hz3 S4=>?_]
 replace S4:?NJ:=S4
 have ltz:=qc3 hz;let ?PV:=I.tupN (t':=s.toks) (fp:=?f6) (x:=x) (y:=y) (h':=h3) (λc o hc e=>let #[n1,_,n3,n4,n5]:=Ad4 hc;(?d7 c n1).trans (?N1)) hf (DI hz hTI hTO h4 h5) ((?d7 _ (qm6 ltz)).trans htup) ru rv;exact#[?f3,_,I3,rfl,hY ?kS,hT h3 S4 hz3 ((?d7 TI D.TIz).trans (hk _ _ D.TIz D.TITO D.TIi1 D.TIi2 hTI)) #[_,_,(?d7 TO D.TOz).trans TN],hn3]
def Bn.fp5{X:Cx}[?B][?f]:∀b∈[?a1J 4,?a1J 2,?a1J 3,s.heap.objs.size,?fF],?mO:=λc hc=>by
 have lc:=A84 (p:=λc=>?a0O c) ?s6 ?s6 ?s6 ?a8 ?s6 c hc;exact I.fpOk lc (?jD lc)
abbrev qC(S:?s8)(N:?SH)(a b:Addr):It :=
 #[λi H=>∃xs ys x y,?e9/\?r7/\?aL/\?pU,
  λi H v H'=>∃p x y,?aS/\v=?dO/\H'=?vH/\(∀xs,?e9->?aL)/\∀ys,?r7->?pU,
  λi H=>∃xs ys,?e9/\?r7/\N xs ys i]
abbrev zJ[?d](a b:Addr):It:=qC (SqL K) (?zF) a b
def QN[?cE][?aC][?k9](a b z TI TO i1 i2:Addr)[?ZF] :
 Xn P w K ?j2 (?iO) ?f6 z (λi h=>?ET/\?TS/\?a2Z i i) where
 mem:=?hQ
 obj:=λi h ?IJ=>DI hz hTI hTO (K6 h1) ?sX
 keep:=λi h h' ?IJ k=>by
  let#[k1,k2,k3,k4,k5]:=of5 k;exact#[k1 _ hz,k2 _ hTI,#[u,v,k3 _ hTO],h1.at λo q=>k4 o q,h2.at λo q=>k5 o q]
 item:=by
  ext d9;let ?GQ:=st;let#[xs,ys,x,y,Yt,OQ,hx,hy]:=hg;ext XS;let ?j0:=ra.get hx;let#[v,hv,rv]:=rb.get hy
  exact wpAny_pyNext_zip_item D hz hTI hTO h1 h2 ?A8 ?y2 (x:=u) (y:=v) ?pY (?lK) λh' hz' TN HS h2' htup hsz hk =>
   FT (Y:=(zJ X.K a b).yld i H) (T:=λh=>?ET/\?TS/\?a2Z ?aO ?aO) D I hf hz hTI hTO (K6 h1) ?sX ru rv hz' TN htup hk (λh3 S4 q1 q2 q3=>#[q1,q2,q3,HS.at λo e=>(?d7 i1 D.i1z).trans e,h2'.at λo e=>(?d7 i2 D.i2z).trans e]) λhn=>#[_,x,y,hn,rfl,rfl,λzs q=>by rw[?qW q Yt];exact hx,λzs q=>by rw[?qW q OQ];exact hy]
 done:=by
  ext d9;let ?GQ:=st;let#[xs,ys,Yt,OQ,hx]:=hg;ext XS;have la:=ra.length;have lb:=rb.length;apply wpAny_pyNext_zip_end ?e8 D hz hTI hTO h1 h2 ?A8 ?y2 ?_ λh' hk=>#[rfl,I.turnedN (t':=s.toks) (fp:=?f6) (λc o hc e=>?_) hf]
  . rcases hx with q | q
    . exact ?j ?m6
    . exact ?i ?m6
  . let#[n1,n2,n3,n4,n5]:=Ad4 hc;exact ?N1
 self:=λ_ _ _ _ _ st h=>qv6 st.1 h
inductive ZP[?d][?tP]:Prop
 | mk:∀a b,(vs=[?aD,?qF])->((∃xs,SqL K H1 a xs))->((∃ys,SqL K H1 b ys))->(R (?iO) H1)->?N2
abbrev Bo6[?d](ta:TA):TI:=?a0A ?N2
def pV:?a20 ?gX ?gX:=?cD
def DV{X:Cx}[?aH][?aC][?k9]{a b:Expr}{ta:TA}{p pos:Pos}(hg:Gl X ?gX)(hm:?eJ ?gX=none)(ha:?LU)[?W][?WR] :
 PI X ?j2 (?a0M ?gX ?b5) (Bo6 K ta):=by
 subst hK;intro Ae s σ H R I h;apply Call_ (M7 I hg hm pV (qh1 (Dz (ha pos Ae s σ H _ I h) λus s1 #[vs,H1,I1,r1,q1]=>?_) (by rw[hs,hs2]) (by rw[hs2];rfl)));let#[la,lb,e,#[xs,Yt],#[ys,OQ],q]:=q1;subst e;cases r1 with
 | cons ra rr =>
   cases rr with
   | cons rb rr =>
     cases rr;cases ra;cases rb;let#[ia,_,pa,_]:=?qN Yt;let#[ib,_,pb,_]:=?qN OQ;have a1:la<s1.heap.objs.size:=by let ?VY:=pa.isList;ext bB
     have a2:lb<s1.heap.objs.size:=by let ?VY:=pb.isList;ext bB
     apply call_zip_2 ?A8 ?y2 λh' hz hTI hTO hi1 hi2 hsz hk=>?_;apply qv6 hz #[?F7,[?F7,?a1D 2,?a1D 3,s1.heap.objs.size,?CY],_,_,H1,rfl,?SZ,QN la lb _ _ _ _ _ (zipApart_new a1 a2),#[hz,hTI,#[_,_,hTO],hi1,hi2],I1.fp5,q]
section
variable[?kC][?hA]
def cW[?X9][?YS][?dB](hl:∀i zs τ H,?g4->?qC->?F3)
 [?WB]
 [?Z9]:?ZN (?oT) tc:=by
 apply#[λi m zs τ H=>m=n-i/\?g4/\?qC,?uV,?_];rintro i m zs τ H ⟨rfl,hi,pp⟩;let ?SX:=hl i zs τ H hi pp;by_cases hlt:i<n
 . apply ?a2U ?MZ ?IL;let ?GY:=y;exact hs i u v zs τ _ p (y1 xs qa) (y2 ys qb) pp hp
 . have e:i=n:=O9m
   subst e;exact ?j #[?P9,hd zs τ H pp]
def TQ[?X9]{g:TG}{tb:TS}{D:Ends}[?nV][?YS][?Z5](hl:?a15 ?g4 ?F3)
 [?WE] :
 ∃W:?f1,?g6/\∀i m σ H,?eW →
   ?a4I ?oT (?ZK ?oT ?oT):=by
 ext XC;rintro i m σ H ⟨rfl,hi,pp⟩;let ?SX:=?PQ;by_cases hlt:i<n
 . apply ?a2U ?MZ ?LJ;let ?GY:=y;exact hs i u v σ _ p (y1 xs qa) (y2 ys qb) pp hp
 . have e:i=n:=O9m
   subst e;exact ?j #[?P9,?UY]
def IG[?aH]{a b:Addr}[?hH]{n:Nat}[?ZG][?dB](hl:∀i zs τ H,?g4->?qC->?I8)
 [?WB]
 [?Z9]:?ZN (?iO) tc:=?a25 cW
def XG[?aH]{a b:Addr}[?hH]{n:Nat}{g:TG}{tb:TS}{D:Ends}[?nV][?ZG][?Z5](hl:?a15 ?g4 ?I8)
 [?WE] :
 ∃W:?f1,?g6/\∀i m σ H,?eW →
   ?a4I ?iO (?ZK ?iO ?iO):=?a25 TQ
universe e9
def preSum_sum[?hJ]:∀k,k<=ns.length->?x7 (?xA) k=(ns.take k).sum
 | 0,_=>by simp[preSum]
 | k+1,h=>by
   show ?x7 _ k+?q7 k 0=_;rw[?OK ns k ?X,qe7,qa0 ?X,qv2,qa1,qa0 ?X];simp
def pR{X:Cx}[?cF]:?a0U "sum" (λxs H Q=>∃(p:Addr) (ns:?z),?iV/\?a4U p ?lZ/\Q (?EP) H):=by
 ext fQ;let#[p,ns,rfl,hq,q]:=h;ext WY;ext DV
 have rel:∀(i:Nat) (v:Value),its.toArray[i]?=?L->∃t,v=?g (?q7 i 0) t:=λi v e=>by
  have e':?T0:=?qH
  have hlt:?SY:=?L4;have hb:ns[i]?=?c (ns[i]' ?f2):=?bK
  let ?j0:=?a1I ?bE ns;rw[e']at hu;cases hu;rw[qa1,hb];exact ru
 apply call_sum_walkG (qr1 ?gF ?_);apply#[?s,?RN,?PN,?lN,_,_,?xA,rfl,?RO,?U7,?_,rel,λh' tk t' k=>?_]
 . let ?yY:=pl;exact ?wB
 . exact pl.isList.at λo e=>?j3
 . intro b hb;have hb':?a3E b\/b=p:=?i4
   rw[qi2];rcases hb' with rfl | rfl
   . exact ?a37 _
   . let ?yY:=pl;exact Nat.lt_succ_of_lt (qc3 ho)
 . ext WQ;apply#[?EP,H,I1,#[t',?_],q]
   have e:?x7 (?xA) ?lN=ns.sum:=by
    rw[qc5,←l1,?OK ns _ ?a8,qd2]
   rw[e]
end
mutual
#check(4,[?a,?b,(?yY),spot,some,sumN,if_neg,(?b6),(i+1),∀{t:?w},a,Nat->Int,.ref,.int,prodN,if_pos,wpAny,?g ?c,addR,?o rfl,(?vQ),∀(t:?w),a,(t l),Nat->Nat,List,X.env,2 ^ c,blendR,beside,2 ^ b,∀{f:?k},a,.(by grind),.lst,(-1),(n+1),this,.inl,∀(f:?k),a,(t j),?e o,?o ?c,In.row,(j+1),shrS,moveR,2 ^ π,(?vF),sumN_all0,∀(I:?R1),a,∀(R B:Mat),a,s.heap,(model prog w),.inr,h.pos,#[x,hx],.(by intro z;cases z),.(by exact this),V.int,λj hj=>?_,(t k),decide,.nil,sumN_one,.(by split<;>omega),.none,s.heap.objs.size,(i-d),qa9 _,R j ?L,A.fdiv B,funext,.type,T k k,∀{n W w i:Nat}{G:?aL},a,?a85 Nat,?l b,(?aE),r<=j,(R,B),kv.1,.tup,∀{K:W.Frag},a,unit,h.zero,Good,?l a,?g e1,(i-?t),Ck ne,RelV,(c+1),IsPair,∀(hp:p<n)(hq:q<n)(ne:?gW),a,∀{P:Program}{w:World},a,∀(n w:Nat),a,qa2 _,eval,(A p),2 ^ (2*π+1),(s l),z.symm,r<=n,D i j hi hj,p.1=k,lookI,(?cF),∀(ms:?dM),a,∀{kvs:?c7},a,.(by by_cases e:j=k),?o e,(?fU t i ?eJ),.Call,?g e,R r c,Lat.Mat × Lat.Mat,(by ext aA),Mat × Mat,?x V,(k+1),(p+1),∀{A:Around}{E:?X9},a,∀{G:?aL}{M B0 R B:Mat},a,∀{Q:?X9},a,∀(s:?bP),a,.(by simpa using hb),∀(K:W.Frag),a,A p c,.Attribute,r<=i,H.hi,false,j<=i,?x (?s5),?f f n,h.old,(?h4),?n f m,T k c,(f i),(?tC),.(by simp),I.hok,.cons,Bits,apos,∀{ms:?dM},a,∀(x:?H0),a,.(by rw[this];simp),.(by rw[?eR]),.(by unfold moveR),(1:Int),IsZip,(?fU t ?d st),(?B w T P),λ_=>0,(?aW),.builtin,h.inc,(i-(e+1)),?a7S A,ih O9m,T' k k,R p c,?h6 H H',2 ^ β,(t i),∀{X:Cx}{Ae:Bm}{σ:St}{H:Hp}{s:Shared}{a:Addr},a,∀{kt t:?w}{hd:?k},a,.(by rw[?q]),∀{f:?dY},a,∀(n W:Nat),a,∀{R B:Mat},a,∀(hi:i<n),a,s.heap.IsTuple,(0:Int),(by ext a2),λc hc=>?_,Hu ne,kV k,H p=none,(d+1),t ?d,f i / g,?x (?p6),(tr T),?o z,i≠j,(model ?gS X.w),?a85 Addr,(?f4),Value.ref,(w+a),r1.fdiv r2,?e v,downS,Nat->?k,(?BS),ns.map,kvs.map,(f+d),(A q),w1.extBut,∀{C:?aL}{δ:Nat},a,∀{s:?bR},a,∀{n p q:Nat},a,∀{s:Shared},a,∀(hp:p<n),a,(-q),Ep π b r,(k,v),(?aF).natAbs,#[h1,h2],(?fS),as.map ?mD,P5 kvs k,?g h2,(kt i),keep,spot<l,value,starEach,R j c,?e x,(qg9 ?pP),?g z,?a7I t d,?x Addr,h.low,?l ?aC,(?fR),Part,put2,λr c hr hc=>?_,hx c hc,(w+n),?x Expr,[it],i-d+1,(?fK).natAbs,hst.lt,(e::es),?x Int,call,.(by intro X hP hw hK hc i Ae s σ H E I hf st hg;subst hP hw hK),∀(H:?w3)(h:?AD),a,∀{prog:Program}{w:World},a,∀{R0 B0 R B:Mat},a,∀(a b c d:Int),a,.(by simpa using e),.(by rw[?dO]),∀(hs:?rE),a,∀{n w:Nat},a,(?CA),R l ?v,cpos,Tw f ne,(?t4),.(by ext hR),(?iJ+i*?iK),R k ?a6,?l p,kt j,(λr c=>R r ?gJ),insT,(λj=>T j ?L),?x Key,(tr R),f<=j,λj c hj hc=>?_,(?l D),(Q c),dd.typeIs,r<=w,(?w5),Value.isInt,?g e2,(?m5),?a85 Hp,insAt,cS π i,λk hk=>h k O9m,?n f n,T j c,.seq,Pv i zs τ H,Bw e,R' p ?L / ?aF,Itm d o,(s c),U k c,addR_row_ne,r≠p,?g h1,.fields,h.st.lt,(a==sysModules)=false,qc4 _ rfl,X.prog,qa3.mp,(?TS),rel.val k,p≠q,hst.zero,?bF ms k,absurd,?n f k,ObjOk,A / g,R i c,Dp O9m,addS,Same,(?l3-1),(pb R t k ?jQ).natAbs,IntMulOk,v ?L,w3.extBut,R' p ?v,λp=>?XM,T i c,(?SO),Ii n f,∀{kvs:?iD}{vs:?a4J κ Value}(r:?i3),a,∀(h:?LY),a,∀(bb:?NJ),a,.(by apply qt3.mp λy=>?_),.(by apply qj1 ?pP),∀(hi:i<n)(hs:s<=i),a,∀(R:Mat)(p q:Nat),a,∀(s:?bR),a,∀{as:?eT},a,∀(ry:?b0 y u),a,.(by simpa using q),λj hj=>O9m,(n+w),i<=n,.dK [],X.mg,insS i ?d st ?aP,R ?g7 (t ?g7),(R j),(r-1),kvs.length,h.gc,KV kvs vs,Pv i σ H,?o e2,?c8+f n,A r c,(?bO).natAbs,?pB V,.(by ext bZ),x.2.1,d<=i+1,?a4J κ V,{ s with heap:=h' },(L+2),?n ?fV i,.Name,hd j,b+i+3+2*π,(π+1),V r c,?a3V e,x.2.2,hlen,#[t,rfl],S.same,Sum.inl k,ms.map,?n (?a5O ?L) r,(?sC ry),?o e1,R ?d c,λl h1 h2=>?_,(Hw R p),kvs[i]?=?yB,spot<=i,?h3=0,?g h,c<=?dK,(j-1),Rows,"zip",h.red,qa6 ?_,2 ^ δ,j=spot,R j ?v,?o h1,R k c,S6 ?cG e,[?aW],λ_ _ _=>rfl,2 ^ η,(?qM).1,(?l z),"dict",Yh s r c,λ_ _=>rfl,call_meetsIn,?o h2,(?nM),(n-k),spot<r,?e p.2,k+m<i,(?tU),Itk d o,H.part.inc,?a85 Shared,Array ?rD,Bw ?c,T r ?gJ,.(by ext kF),∀(n W w i:Nat)(G:?aL),a,.(by rw[move_row];unfold mvI),.(by rw[←Ay,←Ay,←Cm]),∀(R:?a5V H1 as),a,∀(e:?mY),a,∀(h:?kS),a,.(by by_cases e:?bE),.(by exact True.intro),.(by clear hz2;omega),∀(ok:?NT),a,∀{n W w r i:Nat},a,.(by by_cases e:j=p),.(by by_cases e:r=p),.(by decide +kernel),.(by exact qk3 _ g0),Rd H a ?cE,x1*y2-x2*y1,D.nx σ H,.(by simp;omega),h'.IsTupleIter,?l t,(?wK),0<?aF,"range",λx a=>R x ?dU,(f+m),F3 n w r E e T,pb R t k m,Og k k,?fU t ?d st j,(Bz A p u),Z r c,#[a,b],?n ?fV ?i,hst.ge,?a58 kvs.length,Ol n w k T,(n:Int),R.row j a e,ih ?c,2 ^ ?iK,h.st.inc,h x y hx hy,(upd H' a ?cE),λb hb=>?_,s.1 i ?nR,a m*U m c,(?oO),?m i,(f j),H D=none,(?l it),∀i c,?c3->?ZS,(i+d),r1-?dV*r2,(n-1-k),?a4J ?fW V,h.IsTupleIter,j<spot,(?r7),s.heap.get?,Str->?n1,?x Str,Pv ?i,?n ?lD j,?f (λi=>Uj i*A i 0*?TZ) ?H,Jk [] kvs,blend_row_p ne,?f g n,h.ker,fs.lookup,h'.get?,?G5<0,.(by ext fF),β+(π+2),k+1+m,(?r P i j 1),?X6 n w T,?a4J TE TE,2 ^ ?yH,?e _,?a0 j O9m,?t4<=i,V.ref,Lat.shrS,?O hj,(I.tok _),qb9 ?_,(?zE).get?,S1.same,P4 es ms,R i x,R' p c,(cK ms),u ?b1,h.st.pos,(β+?n6),(m+1),(?mH),St->?g8,R.free,b*f x,.frz o ?cE,λx a=>S x (n+a),H a=?e ?cE,(β-(η+1)),H d=?nL,?pB ?rD,(?mF).congr,#[y,hy],w2.extBut,?g ne,cM π i,?aQ=k,?f _ n,I.hok.fresh,(?JK),(?DB),(λc=>c<w),(?TL),x k*?fQ,T j j,?e u,(t ?e2),.(by simpa using e1),ChainAt,?a7X e,?e (?mW),?R R i s,H' a=?nL,?n ?lD i,Du w r T' t,(λj=>?aF),(?dK),R r x,∀(K:?B4)(h:?N9)(hi:?c3),a,∀{A B r1 x1 y1 r2 x2 y2:Int},a,∀(kvs:?iD)(k:κ),a,∀{n w r:Nat}{E:Nat}{e:Int},a,∀{R B:Mat}(h:?YM),a,∀{R:Mat}(h:?a6I b R),a,.(by rw[?N]),∀{es:?x ?q1},a,.(by by_cases e:?jA),.(by simp[Value.isInt]),∀{w r:Nat}{R:Mat},a,∀{π b spot:Nat},a,∀(h:?NU),a,∀(u v:?k),a,∀{es:?f2},a,∀{i:Nat}{R:Mat},a,∀{y:V}{u:Value},a,∀{G:?aL},a,∀(h:?IC),a,∀{o:?i9},a,∀{u:?k},a,?eX R t f m,(?SV),field,Lat.insT,?a78 ?pC,.(by ext uD),?Q t p ?t ?aP d,(by rw[e];ext k9),h.good.trans,∀x∈ns,x.natAbs<2 ^ Rh,λl=>?fK,.bool,(?vK),?a7I ?bL d,?a7J r c,(?JZ),(?HT),h.tab,(?c5,?a7X b),?x α,s.heap.push ?YG,?o a1,qe6 ?T O9m,i<=kvs.length,r≠i,(-(b*q)),(w<=1000),?x (?KO),Int × Int,(m+d),λj h1 h2=>?_,H b=?nG,f i c,Option,hst.pos,?aJ=0,(uJ K a b),λx hx=>?_,t k=k,?n f' m,w4.extBut,(?lU).natAbs,?m j,?l l,(dT h w f),∀j,j<r->?nF∣e,?YO*h,λz=>?_,?a7Z ts t,prs.drop,?vC vs k,(K:Int),slice,pT n B R a b,Sum.inl p.1,h.st.red,λd hd=>?_,#[h1,_,h3],(?LG),DictEntry,λi hi=>?_,i.natAbs<?sT,(?aI ?jK),?wE hc,bb.2.1,K.pos,?a3G ?gK m,(tr Og),Itd hi n,Gq π b i,Lw R t i ?cX,2 ^ e,?e y,(?lB),?a7K c b,(h<=1000),?S*?f5,A-?aG*B,?cY=0,?o h,?Q t p f ?aP d,λk=>B k a*?wH,(v:V),?lQ b=?M,2 ^ Y,(i+1+m),?hY*?kT,h.good.rest,as.length=h,hst.inc,[e,f],{ s with heap:=h',toks:=tk },Yh s j c,X4 kvs k,(f:?dY),In.zero,2 ^ 61,(?N0),backTo,t j<t k,Shares,VI n f,?gC*f n,?e ob,s1.heap.push,λk hk=>?_,?h9 i j,Value,spot<i,up c _ q ?dE,Lw R t i r,?g (?a0A),(?zC),?aI ?wC,?f f j,h1.2.2.2.1,[a,b],?f _ ?H,i+1-d,?gU+1,qe8 ..,(by unfold cM;omega),h _ O9m,Ie ?I,h n O9m,?x ?rD,H a≠none,if i=j then 1 else 0,?bS->Hp->?a85 VK,?f (?qN) i,?Q t p f s m,?n f ?p7,e.symm,?a3W H s',?g a1,Key × V,lo<=n,(?BX),Good.refl ..,λa c=>?UX,?iJ+spot*?iK,?a78 ?a0,kV_is,this.table,qk0 O9m O9m,Jq n w r e T,?a7X o,Xp r b H H',?m n,.ellipsis,(by kernel_rfl),(u l),(x=?aW),(?iA),h c hc,Int.mul_pos,#[u,hu,ru],?aI "tuple",(-(?a43 m (t ?g7))),2 ^ m,(tr S),?oP true,s2.bwd,h.st.zero,w5.extBut,(?UC),intKind prog w,λr l=>R r (cA t k c l),?a3Y 1,?aI ?j6,?vQ+d,λj=>?nF,2 ^ (j-f)*μ*?f5,base l h1 h2,(hr.mono hk),?a3E i j,(∀c o,c≠z->c≠b->c≠i1->c≠i2->?O2),λj c hj=>O9m,.dK kvs,h1.symm.trans e,λl hl=>?_,(?m3),Oj ?X a ms,(kvs.any ?vD),qr9.mp,(w+c),its.toArray,Ne.symm,.ad i j n,(i:Nat),(?t5),M a ?L,(tr A),I.laid,?n (?YZ) m,.bl true,?a6Y h,upd H a (?mW),∀(D:?NF z a b i1 i2 t1 t2)(gz:?a4T ?X ?aB)(ga:?b2 ?X a (?l i1) (?l i2))(gb:?b2 ?X b u v),a,∀(g1:?v1 i1 t1 n) (g2:?v1 i2 t2 m) (e1:?dC t1 xs) (e2:?dC t2 ys),a,.(by let#[ho,hsys,hl,vs,es',VA,rel,hd',hsz,ex,hm]:=Xc I hz;rw[hd]at hd';cases hd'),∀{kvs:?lM}{xs:?z1}(r:?UA),a,.(by repeat (first | rw[?s] | rw[?n5] | rw[?g ne'])),.(by have hn:es.size=vs.length:=by rw[hsz,rel.length]),∀{z a b i1 i2 t1 t2:Addr}{n m:Nat}{xs ys:?jY},a,∀{te:TE}{D:Addr}{Q:?g8}{τ:St}{H:Hp},a,.(by let ?DC:=IA ?cG e),.(by let ?DC:=?jE),.(by rw[?q,?s]),.(by rw[?g y,?q]),.(by rw[?o y,?N]),.(by apply#[?a5,?a5]),.(by exact(show False from r).elim),.(by intro Ae s σ H xs us Q I r h),.(by apply ?U ?tE),.(by rw[←rel.length];exact z),∀(hz:∀c,c<?dK->?j1),a,∀{a b c d:Int}(h:a*d-b*c=1),a,∀{n w r:Nat}{e:Int}{T:Mat},a,∀(he:0<e)(h:?sF),a,∀{vs:?p5},a,.(by intro Ae s σ H Q I h),∀{D:Nat}(hD:P7 m G M D),a,∀(e:?kH),a,.(by apply Ah ?q2),∀(h:Heap)(a b:Addr),a,∀(hK:X.K=K:=by rfl),a,∀(zC:∀c,G c->c<W),a,∀{R:Mat}{p q r:Nat},a,∀(f:?dY),a,∀(R:It->?g8),a,∀{n p:Nat}{A:Mat},a,∀(CL CS CW:Addr),a,∀{R B R' B':Mat},a,∀{X:Cx}{pos:Pos},a,∀{n W w i m:Nat},a,∀{M B0 R B:Mat},a,∀{n W w lo:Nat},a,∀{kt:?w},a,s.heap.IsTupleIter,#[ok,ov,hit],?h6 H H1,blend_row_ne,?a3Y 2,qg8 ?T O9m,?a3Y 4,?f (λk=>a k*?gK) m,X.base,?a87 (?eS) m,0<=?wH/\?wH<?aF,valueAt,λkv=>?a7 (?n7),GG T s k,.(by decide),?g ?T,2 ^ (j-?t)*μ*?C,?o hj,?f (λk=>a k*?a3F (U k)) m,blendS ?d i x y z u ?aP,(?c5,?nK),?n ?fV r,c<t j->?eO=0,d.name,β+i*?n6,spot+1,r1≠0,?a5Z h.pv,?o ?T,tupleKind,?a3J R' B',λi=>?JA,Oi.some_of,?eN es ?y,(K w.params).In,Ah ?rB,?a83 H' f,(?l j),Kr n W w i G R0 B0 t π b,S j (u j),?a3V ne,T' k c,?o a2,R i ?tJ,Builtin.Int.intBits,wpAny_callSpecial?_slot,congrArg,"list",?g ?JS,beside_lo,HZ ?cG e,hst.lead,R k ?L,λj h1 h2=>O9m,K.head,n<=1000,?a3G ?cC m,Ej (?a3C l spot) (?a3C l i),?a7V y2,Rd H a (.dK ?mN),getItem,((0:Nat):Int),R0 r c,∀l,?eL->l<i->?dK<t l,k5.objs.size,s.free,Lat.Shares,?n ?tO k,?a41 p,#[y,H2,I2,ry,q2],?aT e j j,B.fdiv r2,r=spot,?A R ?d i x y z u,x2*r1+-x1*r2,?x (?pB Expr),?a3Y 3,?g e4,I.bare,?eN ?f7 ?y,po x x1 x2,(?lK).natAbs<r2.natAbs,2 ^ (zz-2),?a6Y ?i2,List.range',up b _ q ?dE,(zt4 ?X a b).objs.size,x.keep,#[T',s1,s2],kk b ob hb z,(?oK).1,I1.kept,T i d*X d j,.(by simp[hlt]),r2≠0,D i i hi hi,?g a2,?a41 i,h.s0.inc,"dict.update.loop",fs.findIdx?,.(by rw[eA];ext kG),rawInt,{ cls:=?aI "dict_items",data:=?gO #v[?l d] },(?a43 ?jQ c).natAbs,?o e3,ia.toArray,?f (λj=>(?hA*?lU)*?IN) i,a*u c+b*v c,?rO<=r/\r<i,W i m σ H,?g9 k y xs,?a0 k hk,?a85 ?bP,?o hi,∀j,j<r->t j<w,qn9 m0 m1,holding [ov] (getMethod ov m pl),?e ?eC,attributeBase,ib.toArray,?m 0 0,?bF ns j,A.handled=none,(β+c),(?r4 pos (?vY)).any,?a7T ?d ?oQ,?BG ?cU ?jK,s.1 j ?L,Om K fd ps []/\Bv P w K mg base Eo k f fd ps sp,λk _=>?_,λy=>hne y.symm,?a43 m ?v,[?aW,?aM],o.data=.dict es ep,us.length=h,?g e3,?a5R H s,I.turnedN,?a4G a ?lP,ms.length==ns.length,.(by omega),Nat.log2_lt,?o hr,?x (?fW × Addr × Value),hf it ?bG,(i-1-k),M k ?eF,?n _ m,R i ?a6,?a7I t 0,Q (?tT) H',Jk kvs more,h.partOf,(i-1-j),?h5 i ?d ?eA ?aP,R1 r c,ZT ?X a b,λy a=>R y ?dU,standAt apos.atName,x m*U m c,2 ^ i*μ,?a6U ?i R0,?f (λk=>x k*?a3Q (U k) q) m,λh' KL hs=>h _ ?_,h.back x hx,?m (hi-i),backToKw,2 ^ (z-2),.(by rw[h,qd8]),(aN▸hi),Nat->?D6,(?CA).is,run d hd,?f (λj=>a j*U j c) m,h.st.s0,?R B i ?d,y.natAbs<=?S,O7 kvs k v,.(by have:=h.pos;omega),(?mF).mix,Rb hA hB,λk hk hne=>?_,λ_ _ x=>x,∀j,j<r->t j=j,Dp (by ext kA),λ_ _ _ _=>rfl,mvI i s r,tPairs,?wG hx k kr v0,"keys",Dn e c,D6 n W w i G R0 B0 t π b ?d R B,#[w',hw,rw'],Rd H a (.dT kvs),?a7S (Hf A p),2 ^ 9000,.(show b+c+1=(c+b)+1 by omega),#[p,eA],(f,first),#[hp,g,d,tk,os],?oP ?c5,?n (λl=>f (k+1+l)) ?lL,D j j hi hi,x.natAbs<=?S,?n ?fV ?bT,(f k).natAbs,(h w:Nat),w+n<=W,(?nO).natAbs,?v4 e2 e3,if j=i then 1 else 0,.(by simp at e),a∈as,∀k,k<n->0<f k,.(by ext DV;ext aA),h.detsD,?g x2,s _ _ e,?a3X W M,h.prod,?a4D EuA r2,?a78 st.lt,(κ*D),moveS i ?d x,?bF ns k,H b=?e (?aR (k.map kV)),values,I2.thaw e2 hb,?e (?aM),Str.ofString "__next__",s.TypeIs,EM ?cG eb,#[_,?gR,rfl,rfl],?a7S (Hf A ?bU),P.zero,(?hX).1,?aT (?kZ) i d,"__eq__",λr x hr hx=>?_,spot≠i,E8 n w T T',Kp H H1,mixKind ?gS X.w,#[kr,ht],(?l4).2.2,?a82 ?PS,id hin,(?a64 R),?b0 (?dH) u,Ah ?yN,#[r,t,kC,hst,hz],?a4N p (?aR [?dH,v]),λc xs q=>?rF,i=kvs.length,one j c,pT n B0 M a ?L,λk hk=>O9m,h k c hk hc,?eY f i j x ?lF,?Q t p f s d,mixKind P w,?g hne,h.get?,.(by rw[←qe1];congr 1;omega),#[rfl,?_],λr x=>?_,A a b*q b,?a6A R v,[a,b,c],λσ2 H2=>tb { D with nx:=?lT,ct:=?lT,bk:=D.nx } σ2 H2,s₁.heap,.Subscript,Array ?q1,?g x1,?n f ?H,#[i,hi,rfl],Builtin.SmallTypes.nextOf,Q ?g0 H',(?hX).2,λj hj hne=>?_,sq.flip,?n ?tO r<=E,bE.zero,In.sum,(t:Tn),"StopIteration",stored,H a=none,Og k l,q.natAbs<=?S,(tnA t),qf0 _ O9m,Nat->?mT,g x σ H' λσ2 H2=>tb { D with nx:=N,ct:=N,bk:=D.nx } σ2 H2,h.col0,I ?d s,K.zero,λr l=>R r ?v,#[z,hd,vs,rel,dd],?a7E k,?a7V y1,Heap.SameBut,2 ^ b0,#[λj k _=>?l7 j k,λj c _=>?sX j c,λj _=>?mP j,λk j _=>?pX k j],.(by have t2:?fU t i ?eJ i=kt i:=?XH),.(by have D:∀i j,i<n->j<n->?NA=?rX:=h),.(by have he:?L3:=?L8),.(by rw[?q,?q,?q]),.(by let#[σ',H',I2,e2,q]:=hq;exact#[σ',_,?BD,q]),∀(h:∀l,?eL->l<i->?YW),a,∀{x y z u:Int}(e:NB π (?I0) (R i ?nR) x y z u),a,.(by exact ?a6V x0),∀{i:Nat}{T:Mat}(h:∀r c,r<i->r<c->T r c=0)(s:?w),a,∀(hG:∀r c,?jR->r<i->G c->?WZ),a,∀(hq:∀k,k<i->(Lw R t i k).natAbs<?z)(hi:i<n),a,∀(mg:?lR)(base:Heap)(C:Addr),a,.(by have e':¬q.1=k:=?VQ),.(by unfold mvI;split;omega;split;omega),∀{C:?aL}{R:Mat}(h:Tc n C δ b R),a,∀(hu:X.A.units+1<cLine)(ho:?QT),a,.(by rw[?g6,?q]),∀(hq:q<n){k:Int}(hk:?R4),a,∀{x:?bR}(h:?a37 β x),a,.(by have z:b=it:=?iA),.(by rw[?KP]),∀(hd:?a70 n),a,∀(x:?a4Q H s),a,∀{Q:?n1->?jX},a,∀(A B r1 x1 y1 r2 x2 y2:Int),a,∀(h:?a5U n G),a,∀(ps:?lS)(k:Nat)(sp:Sp),a,∀(spot i:Nat)(A B g a b:Int),a,.(by let#[f,fd,h1,h2,h3]:=h.ex),∀(hn:i<n)(hp:p<=spot\/p=i),a,∀(k:Nat)(y:α)(xs:?oX),a,∀{T Og:Mat}(s:?ZH),a,∀{T T':Mat}(s:?BQ),a,∀(P:?eX R t ?t i),a,∀(xs:?bS)(H:Hp)(Q:VK),a,∀(ns:?dM),a,∀{Q:Unit->?jX},a,∀(P:Program)(w:World),a,∀(h:?XL),a,∀(hk:j<=k:=by decide),a,∀(hu:A.units+1<cLine),a,∀(hn:?yG),a,∀(p:Nat)(u:?k),a,∀(hA:0<A)(hB:B≠0),a,∀(ry:?BY),a,∀{x1:Nat}{tpos:Pos},a,∀(hij:i<j)(hj:j<m),a,∀{b p spot μ:Nat},a,Q (?l L) H',#[kvs,hz,hx],ItDGet2 ty tx σ Q x H1,?iQ j _ e,#[o,q1,q2],?vC (q::qs) k,callWith,wpAny_typeOf,∀m,m<d->?a87 s m=s,(?r7).length,MX xs H Q,Heap.IsTuple,((?zF) c),h.s0.pos,λl=>?jB,(sv:?i9),D.TOi1.symm,bootBuiltins,wpAny_updateSeq_pair,?cQ h z TI TO ?aB,#[kvs,q,?b6],?n (λl=>f (k+1+l)) ?jQ,PySem.F.slot_dict_delitem,∀i c,?c3->i<n->?NM,?a3A ?Y (pyNext ?jJ),.(by simp[e]),∀j,j<r->u j=j,?Q t i ?t (?yJ) ?aY,λb hb=>(hf b hb).1,?a4F 4,?a4Z V r,.(by unfold Hw;rw[Bp];omega),?T4 t i s d,h w' _ ?mG rw',atKey (q::qs) k,?a3L ?rO ?f4,fdiv_small,?a7Z as c,#[r0,r1],R0 j ?L,DGet H a y o,λc=>?v8,PySem.F.entry_dict_pop,λp hp=>?_,(hs c hc),qk6 O9m m0,Int.mul_neg_of_pos_of_neg,?a7J ?d st,q*(x2*x2),Shared.heap,k*R q ?bA,?H*eW n,(?m x t),(?oM g).trans,(?eG).set,?aT e j c,.(by ext a2D),Builtin.Dict.samePairs,hk1 _ _ ho1,h.move hi hs,∀l,l<i->G ?bA,s2.keep h1.flip,λhr=>?_,bb.1 r x hr hx,∀kvs,?n0->?iZ,#[rfl,rfl],CC OV hs,?a4T h' (?xV ?aC),?O (R:=Hw R j) hj,hx j ?c,c*R p k+d*R q k,?f (λi=>f i j) n,∀j,j<i->(B j a).natAbs<=2 ^ j*m,PE X f tx,R' j c=?eO,if ?m2 then Hw (?zX) ?d else ?zX,λc _=>?_,#[q1,q2,q3,q4],?a83 H f,.(by simp at hl),xs[n]?=none,H0 b=none,D j i hj hi,(?gH).natAbs,?a37 (?vP) (?hX),H a=?M->H' a=?M,?a4O (?I1),(?Z rfl),Dn O9m c,?A R j q a b c d,?TJ (?hD),λr c hr=>?_,hst.mono,tr R x c,qm3 O9m O9m,#[hz,hTI,#[u0,v0,hTO],h1,h2],(?k)->(?k)->Int,#[_,rfl],(i*j).natAbs,#[q1,q2],?a7Z prs p,(?O O9m),?a3W (upd H a (.dK (?qZ))) s',(?pW:Key),(2*a).log2,c<w->T' i c=0,h.2 b hb O9m,?a5A v ?pM,?a78 h.hd,?n ?tO i,λ_=>rfl,(zt3 ?X a b).objs.size,SameX p H H',0<=?hC/\?hC<?fK,R ?d ?nR,?a4O (?gR),y1.natAbs<=A.natAbs,(a*x+k*y).natAbs,(?QK).natAbs,?a6B (?B w R ?kQ) RB,if x=y then f x else 0,(?TU h2),Lat.Bits,s₁.heap.get?,k<=xs.length,#[u,rfl,ru],Jp i R t,#[e1,e2,e3],(?aT e j),IsItemIter,mainGlobals,(zs++[y]),.(λb u q n z=>by rw[z,e]at q;exact n (qa8 q).symm),DecidableEq,(?eH).isSome,k5.IsTupleIter,show ?a3E i p from ?aX,S7 R t j ?zB c,?f (λk=>B k a*R k b) n,?h7+?wQ*?G,h'.DictOf,pos.line,?aW::u::more,?eU (j:=?m5) (l:=l) ?c ?c,#[b1,b2],if k=a then 1 else 0,subscripted,R1 ?aD ?v,λc=>?VP,?MH<=?jH,?a78 st.pos,?a6B ?cS B,(?i7).natAbs,?c9 ?d _ ?h hs,B j a*?aF,PE X e ty,bs.map ?mD,#[P,inc,hG],#[hz,hTI,#[u,v,hTO],h1,h2],?dP->T i j=0,dL w ?cD,?f (λk=>f k+-1*g k) n,e0.step (?aG),h.step h2,i<kvs.length,wpAny_setField,?g (?VQ),(n W:Nat),h'.objs.size=?t2,#[g1,_,g3],I.ok.hd hc,B.natAbs<L9,#[kvs,kvs[i].1,kvs[i].2,q,?xM],λc=>1*P i c+1*P j c,Sh c η r d,#[_,rfl,?_],items[i]?,.(by ext a1Y),?a3V hne,Int.mul_le_mul,?a80 ?i,#[h1,λj k a b=>?l7 j k a O9m,λj c a b=>?sX j c O9m b,λj a=>?mP j O9m,λk j a b=>?pX k j a O9m],(?zZ).length,i*(?gA+1),qy0 c β,s.1 ?d ?nR,iT x vs H Q,λc=>?L4,IS xs H Q,Dz (?a7P he) λv s1 _z=>?_,PE X ?eM tv,Sem Bool,(x2*r1)*(-x1*r2),λc hcw hne=>?_,λr c hr=>?HA,{ cls:=?aI "tuple_iterator",data:=?gO #v[?aW,?yE] },(?l fa),.(λb u q n=>by rw[Al (ne b u q n)];exact q),?bF ms j,(0:Int).natAbs,qg3 _ ?c,r.repl k ry,upd H a ?cE b,?x Keyword,?a3Q p q,#[O9m,?_],hx k ?c,(∃o,?m1 e=?M/\o.cls=?aI ?CZ)->E (?l e) ?iE,?f (λj=>(?f (λd=>?xL) r-(?YE))*?gD) r,#[?yQ,[]],Key × Value,?PP i _ ?h,x.natAbs*?j9,(?i6).natAbs,∀j,j<r->0<?nF,LX H CS p r b (?e (?l q)) n W s M,∀i,i<r->?a5S e,mY xs H Q,D.TOi2.symm,R1 l ?v,∀spot,?j0->D6 n W w i G R B t π b ?d R B,#[kvs,k,v,hz,hx],#[a1,a2],P6 n W w i R B t (?rO) (?eS).1 (?eS).2,.(by simp[atKey,qp1,e']),∃q,?m1 a=?e q,?a43 m ?gJ,tl _ ?h,P5 (p::r) k,hM a _ ha (?a78 ?gP),let #[q,_,_,hq,_]:=KL;#[q,hq],∀j c,j<i->?vN,?l0 k hlt,Int.neg_dvd.mpr,F.entry_zip_next,?lZ j h1 h2,D.s0.pos,hp k O9m,?R R i ?d,(z▸x.mq),(zt2 ?X a b).objs.size,h.2.2 r c hr hc,List.range,pT n B R a ?L,#[ok,ov,h1],P7 r ?nC T E,Ii n ?cT,?rE->st<?dK,hst.only,(qb9 ?mS),{ s with heap:=h1 },Int.natAbs_mul_self,D j j hj hj,atKey xs k,F6 w n (?B n S ?mX) SB,Am0 i t R,?a5U i G,λk=>?RO,Ii ?H f,?r B ?d i q,Du w r T t,e.hash=hashInt k,if ?m2 then OF ?d (?NY) else ?NY,(?c5,?a7X c),D i p hi hp,(as.set i D1).set j D2,hx c ?c,eW n*B ^ n,wpAny_attempt,(Vd H Z),?a4G b (VI w ?cD),∃xs,?UA/\h.DictOfH (?vU ?fJ) a xs,∃r,?bC/\?a77 n,Array.getElem?_eq_getElem,Kt f e1 e2,(?iI).natAbs,?a7I ?bL ?i,?I n ?h,UQ K R vs H1,?aU j c h1 h2 h3,PA X ?f7 t,?h6 ?MB (Vd H' Z),i*D<=?C,?a7J ?d c,h.good.eqv n ?h,(Jd ms k),QA n w A Q M,?CL o i pos',run d O9m,.(show n+1+j=n+?P by omega),(zt1 ?X a).objs.size,swapsWith,sumN_cut,?a84 ?iW ?C,?yX&&?a3Z ns,PySem.F.args_dict_pop_3 _ _ _,I.base.frzs,?a78 ?F7,.(by rw[Ik,Ik]),λxs _ i=>xs.length<=i,#[o,ho,r],Int.natAbs,#[kvs.length-?i,O9m,rfl,hlt,p'],?a47 G M,?a7D (R i) (B j),B q x*R q y,?a6Y bd,D.TOz.symm,λr c hr=>Bw O9m c,ZipApart,(x,y)::ps,?dC a xs,(y2*r1)*(-y1*r2),?a37 β ?aP,ys[i]?=?qE,zt2 h a b,c<w->?j1,hp j O9m,ht j O9m,.(show n+1-1-k=n-k by omega),key r t kC hst hz,PE X e td,UT R vs H1,S9 P w H h,Du w r R t,(?LV).isSome,MT n w k Og,#[O9m,O9m,?J rfl,λd h1 h2=>?eE],moveS i ?d ?aP,?cI n n β B,h1.trans,?x (?V7),?QQ->?m1 c=?M,#[h1,h2,h3],(?m y u),λh' eb=>#[rfl,?a4I ?f3 (λb ob hb z=>eb b ob ?sN z)],#[q,u,hqw,bE,TH],?a7N ?dJ ?vA,Q .non H',?eH=none,j.natAbs<2 ^ n,PE X i ty,kvs++more,h.good.restB,qb5 (h r x hr hx) (?p0),Good.add,?a43 m ?a6,Sh c η r e,ChainTo m i f,λi j hi hj hne=>?_,BO n W s,?a7 (p.1≠k)=true,(β+?b1),?a3M q,(?d1).natAbs,?kL i2 t2 ?mR,λkv=>(kV ?aQ,kv.2),Pv 0 [] τ H,(?lV).natAbs,#[oi,h1,c1,d1],i<=a/\a<n,λk=>?GS,∀l,l<k->T k ?v=0,?PP i c ?h,.(λkvs' q=>by rw[hz]at q;cases q;exact hx),Ol n w k Og,mZ R x H1,(?nS).natAbs,Nat.mul_comm,Bz A p ?e3,?n ?fV m,I.turned,#[1,by rw[z];omega],ha.typeIs,#[a,kvs,rfl,e,q],?jI ?e2 ?nH,?dC b ys,?c9 l _ ?c h2,?a7W ?xK ?YV,(aN▸hj),c<w->?hE=0,(?dT t==Value.none)=true,(?rA ?xW).objs.size,?a85 Heap,qe6 ?T h,?a4Q H' s',i<n->?PE,#[x,H1,I1,rx,q1],?a7Y T (P x),ms.length-i1,#[kv',e1,e2],h.st.good.rest,x a u n1 n2 e,∀m,m<=n->∃r,r<=m/\?a77 m,?a64 T,.(by simp[valueAt,qp1,e']),?UT (?m x),?a6A R u,h.st.st.red,k r c hr,mg ?vO=?e ?KA,Hy n w m E A P PB Q QB f,ob.slots,.(by rw[eB];ext kG),H0 r=none,h _ _ ?bQ O9m,c j h1 O9m,"dict_itemiterator",λi j=>T j i,λj c hj hcw hne=>?_,Xo n w T ?sU,QH.start,?h6 H1 H2,qm4 _ gn,(?a3U t).objs.size,Int.lt_trichotomy,Pv 0 σ H,?c9 j c O9m hji,(?lW).length<=sizeLine,?l1/\?gQ/\∃vs,?i3/\h.DictOf ?fJ a vs,?cG b _ e,show(-0:Int)=0 from rfl,R ?d ?v,wpAny_Call_method,?a78 ?mP,dd.mapOf,?f (λk=>T c k*X k i) r,c1.2.2.2.1,?lQ c=?M,?f (λk=>X l k*U k i) ?qR,Ep π b i,PE X o td,?i2 c hc,?b2 h' b x y,w8.extBut,?b2 h' ?aC x y,Vd H Z a,Int.mul_fdiv_add_fmod,.(λx=>by rw[h.rows,?q]),?a3W H s,(B i x).natAbs,zt3 h a b,k.natAbs<?z,#[x,λ_=>hx],?a3A ?Y (?CQ ?w2),h _ _ ?mG ?_,(?hA).natAbs,E8 n w T R,hnew.typeIs,k<m->x k=0,w7.extBut,Oj ?X b ns,?a3L i s,IsD H1 a,?n ?nQ r,call_meets,(dL n f),qi8 ?eQ (bE.ge k kq2),.(by rw[Fq];exact d),1*?d1+k*R q c,ms.length-i,r1.fmod r2,a*R p k+b*R q k,?a9 hr ?A3,c<w->i<c->?hE=0,?a4W w,?c2 o f pos',(?TU h1),skip_prod,(r-k)*?iF,e.key=?m k t,λd _=>?_,hk1 _ _ hoD,(?LV).map,bE.pos k kq2,Int.ediv_nonneg,b≠s.heap.objs.size,λc=>?c1+k*A q c,λ_ _ _=>False,?aU j c hj hc,?h6 H0 H,List.replicate,(qm6 lz),j.natAbs<L9,k3 c hcw,#[?aE,?aE,?hS,?tB,λi j _ hj=>O9m],Kt f z hne,zero j c hj hc,ts.length=kvs.length,#[_,rfl,h],IsRangeIter,In w r R v,?r R i ?d ?eA,xs=[?fR],(?cV ?T5),Int.lt_or_gt_of_ne,p*f x-q*f i,Nat->?bR,?r R p q k,.(by simp[P5,qp1,e]),?nJ m i j f,∀c,c<w->u c=v c,(?HP,?a4 p.2),?f (λc=>y c*?wL) w,∀j,j<r->?a6A T ?IE,λc=>?y1,λ_ _ e=>e,X.calm=true,?nO*v c+?G*?y0,[z,TI,TO,i1,i2],?A R p j a b c d,(?tN:Int),?r4 ?fL (?eN ?qW ?y),qm1 ?_ (by size_fits),Lat.downS,"dict.pop",?a4O (?H8),#[a,b,c],h3 r t kC hst hz,i.natAbs<L9,λj _ h=>O9m,#[f0,f1,f2,f3,f4,f5],.(by simp[sumN]),∀i c,i<n->r<=c->?PE,?n (?C8) m,.(by rw[h.a.e1,h.a.e2];grind),(keyPart u).isSome=true,.(by rw[←hz2];exact qh0 _ _),Lw R ?bL i k,ms.findIdx?,items[i],?A R p q a b c d,(apos.endLine==cpos.line)=true,b1.mono ?rR,?a3Y 5,?oV j h1 O9m,∀a∈?XS,?AY,?a4Z (?s9) m,if p<i then p else p-1,#[i-1,O9m],tup_cell,?a7N d ?eS,QA n w A Q R,(?vU ?fJ).is,B p x*R p y,?a7S (Hf A i),(?cY).natAbs,λ_=>?dD,qB n w r L m T,?o (?tD),∀j,j<n->?aF<=D,(a:Addr),Hu ne a b c d k,qf0 _ r1p,?kL i1 t1 ?H,Ej h1 h2,KT H kvs xs,?b0 v w'->Q w' s',O7 kvs p.1 p.2,(x / h).natAbs,?n f' l,S7 R t j ?zB (t m),ih ?c ?c,Paired.length,(?z4).natAbs,0<=?hE/\?hE<=e,hst.s0.low,?a82 (?vE),λi H=>∃kvs,?n0/\kvs.length<=i,#[z,hd,xs,rel,dd],?n ?fV ?dJ,insAt_get,c3 r t kC hst hz,r≠spot,λi c a b d=>?sX i c b (by have:=h2 i a b;omega),WData.weight,l.most=?e n,#[p,k,v,hp,rfl,rfl,y],?f (?qN) ?lJ,if c<w then T a c else 0,?a7 (q.1≠k)=true,λc=>- ?c1,?cH ?_ ih,R' r c=?bO,?a54 G,q*(y2*y2),?r R j q k,?r6 A B g a b,?eK j c ?c,KT × Value,λτ2 H2=>tc τ2 H2 λb H3=>if b=true then te τ2 H3 ?Y7 else Pv ?i zs τ2 H3,?aT e l k,pD n w R B i j,e.val=?m v t',Int.mul_neg_of_neg_of_pos,Builtin.Range.rangeSize,Bz ?kW q v,y.natAbs*?j9,#[p1,p2],.(by rw[Int.neg_fmod_neg];omega),h i j hi hj,kvs++[p],h.s0.zero,h1.DictOf,x2.natAbs<=B.natAbs/\y2.natAbs<=A.natAbs,∀j,j<i->G ?L,?a7K m n,R ?g7 ?gJ,λz=>e (?O0 z),(?O hq),I.nodupK,?a4Z (?s9) i,λc=>?RL,Jp ?i R t,US R x H1,{ s with heap:=?oY },UM D σ v x y H3,Obj.data_mapFields,?cG a _ e,(uC ?h),wpAny_letGo,.(by rw[Al (rX b _ z)];exact z),Bool->?jX,Int.dvd_add,?a7I t ?dJ,λr c hr hc=>qb5 ?jU (qe6 ?T hb),∀a∈as,∀o,?H7,?a3G ?jD r,(?xV ?wT),h.s.same,?a7T p ?aP,?lQ b=?r9,Nat.min_eq_left,if ?m2 then Hw ?q0 ?d else ?LG,D.i1z.symm,qf3 (a*x) (k*y),λr c hr=>?a04,M6 kvs [],Value.int,typeLookup,D q j hq hj,P4 es.toList ms,y2*r1+-y1*r2,∀ob u,X.H₀ a≠?e (.frz ob u),(?a59 ?nM).congr,(?l ?wT),(?TI).natAbs,t1 j ?c,∀i c,?c3->?PK,?wJ i hi hn,(ql9 ?_),[?aW,u,r],hb.typeIs,?i8<=?C,ns.length<=n,qn3 pk d2,e.natAbs.log2<=L,?a4G a us,?b2 h TI (?l i1) (?l i2),Lat.blendS,Straight,λb o e=>?a4O e,MT n w k T,?rD->?jX,kvs.length<sizeLine,λi H=>∃kvs k v,?n0/\?iZ,e' j _ ?c (?B7),(?c8).natAbs,g3 q u hqw bE TH,(?c5,?a7X a),.(by rw[qf7];omega),.(by unfold insT;ext u6),?a4T k1 ?sJ,λk hk=>h k ?c,?a3V q,?a37 β s,?a7 (?bE),λx H' y=>?_,Ej e e2 a b c d k,Nat->?bS->?mT,.(λc _=>by rw[Bw ne,Bp,Bp]),g.typeIs,?g9 s ci (as.eraseIdx i),?mJ l _ ?c,Ej e1 e2,a≠r/\a≠b/\¬N a,?a40 (?x8),∀j,j<i->t j<W,(?l4).2.1,PE X o ta,Builtin.Dict.addrOf,.(by simpa using q1),?n (λk=>f ?bT) n,?n ?lD k,(?LK n).map,?a4N ?aC (?aR [?dH,v]),Hk k X.A,λy H4=>H4 D=?a3M zs/\zs.length<sizeLine/\Pv ?i ?IH τ2 (upd H4 D (?F ?IH)),∀k,k<j->v ?a6=0,UL Q x y H2,λj hj=>?mF,qc0 _ ?cA,Og (u k) k,∃t,u=?WK i t,if i=j then e else 0,?a85 Tn,{ cls:=?aI ?jK,data:=.dict #v[] },?iN i _ (qa0 hi),λj c h1 h2 h3=>?_,?a4D EuR r2,?a4R d s,{ s1 with heap:=?rA ?xW },?a6B R B,h.objs.size,2 ^ (2*π),Paired.snoc,#[j,h1,h2,rfl],zP x y H Q,d.params.defaults=[],.(by show ?dD<1;decide),x1.natAbs<=B.natAbs,λb ob z=>?a4O z,(R p ?v).natAbs<=μ*?f5,hz c ?c,#[kq,hu],?eY f i j x y,?j7 k j h1 h2 h3,∀r c,?gM->?V1,.(by rw[Al (rX c _ q)];exact q),entryFor,PySem.F.entry_dict_get,(?Y3).natAbs,A.natAbs<L9,?VK j c hj hc,i<=a/\a<i+d,.(by rw[qd8]),?a7K c η,?d3<=?m9,∃t,u=Value.str x t,λb u q=>?_,λk j h1 h2 h3=>?_,MR n w A,λl h1 h2=>?a5Z h,Xo n w T Og,s1.heap.IsTuple,∀j,j<i->?kO,λa ha=>?_,binaryOp,?a7T i ?rI,(?mM).natAbs,PySem.F.slot_dict_items,vs.any ?vD,#[_,e,_],List.getElem?_range,i<n->?HR,Bz A p ?b8,?a4F 1,l.row.toRowW,I.tuple_inj,?a4J V V->?g8,.(λc _=>by ext cO;rw[?iV]),?a3W H' s',hx k hkn,.(by simp[hl]),?a7K π b,λc _=>?FP,Ej O9m O9m _ _ _ _ c,λj a e=>?_,Heap.DictOf.new,?I i O9m,x.natAbs<?z,Ax4 j hj e,?a3V e2,?zT k u=true,I1.tuple,#[?i1,?cF,?aE,h0],.(by let#[o,q1,q2,q3]:=id g;let#[p,p1,_,m,p2]:=gt;unfold Builtin.SmallTypes.nextOf;apply qa6 (?wA (name:=?BF) ?XR qo6 (ql5 qo6 ?XR F.entry_tuple_iterator_next ?_ (F.args_tuple_iterator_next_1 _)));show ?a39 (?oG ?w2 0>>=_) s;apply qa6 (qh6 q1 q3 (x:=?kM) rfl ?_);show ?a39 (if ?PF then _ else _) s;rw[?g (show ¬(?PF) from qe3)];show ?a39 (?oG ?w2 1>>=_) s;apply qa6 (qh6 q1 q3 (x:=?m n 0) rfl ?_);show ?a39 (seqItems? (?kM)>>=_) s;apply qa6 (qm9 p1 p2 ?_)),.(by apply ?a3O ?AM ?_;show ?a39 (?oG ?jJ 3>>=_) _;apply ?a3O ?aW ?_;apply ?a4U ga;show ?a39 (Builtin.SmallTypes.ownedTupleIsFree ?jJ>>=_) _;apply ?j8;unfold Builtin.SmallTypes.ownedTupleIsFree;apply ?a3O ?aB ?mS;simp only[if_true];apply ?a4P qx2 ?_;apply ?a3O ?aM ?_;apply qa6 (qi5 gz ?bG λk1 gz1 w1=>?_)),∀(hs:∀i x y zs τ H p,xs[i]?=?eP->?NK->?gF->?dI->g ?eW τ (?a4N p (?aR [x,y])) λτ2 H2=>te τ2 H2 ?Y7),a,.(by apply ?j8;simp only[List.zipIdx_cons,List.zipIdx_nil,List.forIn_cons,List.forIn_nil];apply ?a4P qa6 (wpAny_onRaise ?_);show ?a39 (?CQ (?l i1)>>=_) _),.(by apply#[λi m σ H=>m=kvs.length-i/\?p1/\?i4,?a0D,?_];rintro i m σ H ⟨rfl,hi,pp⟩;have q:=hl i σ H hi pp;by_cases hlt:?JE),.(by intro i s acc hn hi hz hd hit hb k;apply codeAny_builtin X3 ?_;rw[Around.under_plainId Ml];have hLs:s.heap.IsList l items:=let ?N6:=hL;#[o,hb _ _ nld nli ho,r]),.(by let ?FW:=H.part.red ?d l ?aN h1 h2;rw[←?J3,←?PB]at r1;rw[←?J3]at r0;have p:=?a0 l h2),∀{K:W.Frag}{a b:Addr}{xs ys:?bS}{n:Nat}(hn:xs.length=n/\ys.length=n)(Pv:?XP)(h0:?OR)(hl:∀i zs τ H,?hU->?gF->SqT K H a xs/\SqT K H b ys),a,.(by let#[x,H1,I1,r1,d,o,kvs,ex,hz,q]:=_z;subst ex;obtain rfl:v=?dT d:=r1;let#[ho,hsys,hl,vs,es,ep,rel,hd,hsz,exd,hm]:=Xc I1 hz),.(by apply ?Z #[?JM,?lT,λσ' H' p'=>?N8,?XN]),.(by let#[x,H1,I1,rx,a,ex,d,q1]:=_z;subst ex;obtain rfl:u=?dT a:=rx;let#[t1,t2,_]:=tF I1 d;apply#[t1,t2,?_];rw[m.trees]),.(by exact(?cG b u q).stay (λ_ _ _ q=>q) (λc q=>?rF) ?C2),∀{g:TG}{tb:TS}{D:Ends}{σ:St}{H:Hp}(Pv:?D6)(h0:?QE)(hl:∀i σ H,?p1->?i4->?n0),a,∀(hs:?j0)(h0:∀c,c<st->?j1)(h1:R i st≠0)(hW:st<W)(hG:G st)(hpg:?VN)(hex:?LP),a,.(by show(?M4).1=_),.(by show(?M4).2=_),.(by have z:?a5M q:=λw=>Gn hp hq ne ?XQ),.(by show ?hY*?yP+?sS*R ?g7 ?v=0),.(by exact Vp I ?oL hs he (Xd (qa5 (iA kvs k) z) hd (rel.drop k) KL)),.(by apply#[?g2,λb q=>?_,hd];cases q;let#[ob,_,_,h1,h2,_]:=dd;exact#[ob,h1,h2.2.1]),∀{C p r b:Addr}{sv:?i9}{n W:Nat}{s:?bP}{N:?dR}(x:?yU),a,∀{pl:?K5}(he:?XZ)(c:Cls X.K C)(h:?a6E K0)(hr:?Y6),a,.(by have zb:?iJ+?t*?iK=(?sA)+π+1:=?XG),∀{q:Program}{loose:?lS}{XP:(?lR)->?PH}{YP:World->?PH}{d:DefRec},a,.(by let#[g,hg]:=ihm O9m;exact#[g*T m (t m),by show ?z5*T m (t m)=_;rw[hg,qe0]]),.(by rw[show ?D2=0 from ?CW l k hl (qb5 z (bE.mono k l ?c hl))];simp),.(by subst ey;cases (show u=?dT b from ry);let ?UN:=?wF),∀(hr:?bC)(hst:?nP)(hz:?lI)(s2:E8 w n (tr T') ?q9),a,∀{x y z u:Int}(hx:x.natAbs<?qD)(hy:y.natAbs<?qD)(hz:z.natAbs<?qD)(hu:u.natAbs<?qD),a,.(by rcases h with h|⟨hB,e1,e2,e3,e4,e5,e6⟩|⟨hB,e1,e2,e3,e4,e5,e6⟩),.(by have e0:EuA A B A 1 0 B 0 1:=?NX),.(by rw[Gn (p:=j) (q:=k) ?c hk hne ?GY,qd4];rw[Bp,Bw hne]),∀(hst:?x8=?vL::?vY:=by rfl),a,.(by have e1:=a2 hlt;rw[htk]at e1;have pk:=?pC k hlt;rw[htk]at pk),.(by have hl:?a58 ?JW:=by have:=Q5 kvs k v;omega),∀{i:Nat}{T V Z:Mat}(h:∀r c,r<i->c<i->?iL=?f (λj=>T r j*Z j c) (r+1)),a,.(by rw[?gX l k hl (qb5 z (?HE k l ?c hl))];simp),.(by have he:0<?iT:=Dd λj hj=>?oI),∀(d it:Addr)(o:Obj){es:?CM}{ep:Nat}(hd:?yR),a,∀(hc:?TD)(Mn:?SU),a,∀{n w:Nat}{A Q T P:Mat}(h:∀k c,k<n->c<w->?cC=?a3Q (P k) ?g1),a,∀(hM:∀r c,r<n->c<W->(M r c).natAbs<=?DG)(hD:P7 n (λc=>c<W) M D),a,∀(hr:?Y6)(hg:Gl X x)(hm:?hW x=?e (?l C))(ha:?MM),a,.(by have d:=H.hd l h2;rw[←?PB]at d;omega),.(by have t1:∀j,j<i->?fU t i ?eJ j=t j:=λj hj=>?vI),.(by let#[t,q]:=(show ?YD from ry);subst q;rfl),.(by let#[t,q]:=(show ?ZC from ry);subst q;rfl),.(by rw[←?aZ,←?aZ,←?aZ,←?aZ,z u,z v]at e0;omega),.(by let#[ia,ra,pa,_]:=I.tuple Yt;let#[ib,rb,pb,_]:=I.tuple OQ),.(by rw[?s,?o (by rw[x.1];exact hi)]at ec;cases ec),.(by rw[e0,EX _ hk,?a9 (j:=k) ?c ?CT]),.(by rcases g with⟨kvs,k,e,ey,l⟩|⟨kvs,k,b,e,ey,eb,l⟩),∀(h:∀l,f<=l->l<m->?YW),a,∀{CL CT:Addr}{H H':Hp}{Z:?dR}{p L R dn:Addr}{h w B:Nat},a,.(by rw[?dG,Jy];have:R j k=(a*d-b*c)*R j k:=?zQ),∀(h:?IC)(ht:?XX){v:?k}(hv:In W i R v),a,.(by rw[?c9 ?d c ?h hs];exact H.rw ?d c hs hc),∀{i j:Int}{m n:Nat}(hi:?q3)(hj:?OA),a,.(by intro _;exact#[0,?b6,?hS,λj _ hj=>O9m]),.(by intro hm;let#[r,a,b,c]:=?cZ;by_cases z:t m<w),.(by rw[←qe1,←qe1];exact ?A6),.(by subst e;exact ?J #[?FE,hd σ H pp]),.(by unfold insS;by_cases z:?m2),∀(g:?v1 j t n)(gt:?dC t vs),a,∀(hst:?M2)(hz:?WU),a,.(by apply qi8 a (qg9 λy=>?_);have:=c r ?h y),∀(h1:D<=?S)(h2:?MO)(h3:b0<=π)(h4:b0<=b),a,.(by exact I2.fpOk ?h (I2.hok.fresh ?h)),.(by have d1:?d0∣ ?aJ:=#[x k,by rw[e1,qe8]]),.(by have ht:?BG ?jJ ?j6:=#[_,gz,rfl]),.(by have:=?jW j ?d ?aN O9m hs;omega),.(by rw[Al (λz=>by rw[z,e]at n;cases n)];exact n),∀(G:?aL)(M B0:Mat)(kt:?w)(hd:?k),a,.(by show _=?wW*?aJ*_;rw[qe0]),.(by show ?a39 (?oG ?jJ 2>>=_) _),.(by show ?a39 (pyNext ?lH>>=_) s),∀(Pv:?XP)(h0:?OR),a,∀(h:Ug n w r E L m e A T P PB Q QB kl kr hl hr),a,∀(hdb:(x==("__debug__":Str))=false:=by decide),a,∀{w n:Nat}{R:Mat}{u v:?k}(hu:?PV),a,∀(hp:p<lo)(hm:m<=lo)(hn:?s6)(hpf:p<f\/m<=p),a,∀(hd:∀σ H,Pv ?i1 σ H->?kJ),a,∀{n:Nat}{f g:?k}(h:∀i,i<n->f i=g i),a,∀{i j:Int}(hi:?T9)(hj:?S9),a,∀{r b:Addr}{H H':Hp}{o:HO}(x:?sH),a,∀{g a b:Int}(S:?r6 ?cD ?lF g a b),a,∀(ha:?tG)(hb:?RD),a,∀(hp:p<lo)(hq:q<lo)(hn:?s6)(ne:?gW),a,∀(gx:xs[n]?=?eP) (gy:ys[m]?=?qE),a,∀{j k:Nat}{C:Addr}{ps:?lS}{sp:Sp},a,∀(h:?a5U i (λc=>c<W)),a,∀(ts:?eT) (kvs:?c7),a,∀(h:?N9),a,∀(he:R i ?nR=q*?I0),a,∀{a b:Addr}{ms ns:?dM},a,∀{p:κ × V}{r:?iD}{k:κ},a,∀{j t:Addr}{n:Nat}{vs:?jY},a,∀(e:H a=?nL),a,∀{n w m E:Nat}{A P PB Q QB:Mat},a,∀(h:?a4D EuI r2),a,∀(h:?YJ),a,@(BB n W C δ ?a ?b),@((∀σ' H',N σ' H'->∃m',m'<m/\W ?i m' σ' H')/\∀x H',(?a).yld i H x H'->?D7),@(?p _ _ ?a _ _ ?b),@(?p ?a A ?b Q E s),@(?a λi c h1 h2 h3=>?b i c h1 h2 h3),@(show ?a≠?b by omega),@(?bM (?c2 ?a m ?cJ) ?b [] pos),@((if ?a=?b then ?cP else 0)=0),@(det n (Bz A p ?a)),@(?f (λk=>x k*?a) ?b),@(?a (if l<k then l else l+1)),@(∀l,?eL->l<i->(?A R ?d i x y z u ?a ?v).natAbs<=?b9*(?A R ?d i x y z u l ?v).natAbs),@(?aV n W w lo R B ?a ?b),@(qa6 (?MA (?wA (name:=?BF) ht qx1 (ql5 qx1 ht ?LC ?a (F.args_zip_next_1 _))))),@(show ?a=?b by omega),@(?e (?F ?a)),@(∀(i:Nat) t,?pQ->∃kv:?s5,kvs[i]?=?e kv/\H ?a=?e (?aR [kV ?aQ,kv.2])),@(qa6 (qh6 gz rfl (x:=?a) rfl ?b)),@(?a Ae s1 σ H1 _ I1 q1),@(P8 n w A ?a ?b),@(?QL m.base m.few m.line qt5 ?a ?b (Dz (ho Ae s σ H _ I h) λu s1 _z=>?_)),@(qq3 (Dz (hf Ae s2 σ H2 _ I2 q2) λfv s3 ?a=>Calls.spliced_nil ?_)),@(λkv=>if ?n7 then ?a else kv),@(?rA { cls:=?aI ?kP,data:=?gO #v[?m ?h7 ?a,?m ?G t',?m ?G t''] }),@(λz=>?a ?bB),@(Bn X Ae σ ?a ?b),@(So n ?a w r kt hd ?b),@(s.heap.objs.size+?a),@(ms.all λp=>?a7 (?bF ?a p.1=?jS)),@(?F0 pos f first (?r4 pos ?a) (?zO pos (keywordEach [] ?y))),@(A (if r<?a then r else r+1) ?b1),@(λm hm=>?a R O9m O9m ne ?b),@(S7 R t k ?a ?b),@(D6 n W w i G R0 B0 t π b ?t ?a ?b),@(?a (?e0 WData.int)),@(∀j,j<i->(?a).natAbs<=?b),@(Ci n W w r i ?a ?b B0 kt hd t R B),@((det i ?a).natAbs<=?b),@(?a q loose XP YP ?ZV d [] (λf vs=>PySem.call f vs)),@(?a A B r2 x2 y2 (?lK) (x1-?dV*x2) (y1-?dV*y2)/\?xA),@(?f (λl=>(T l ?d4*?iG)*(if d=l then 1 else 0)) ?a),@(?a*(?i*(i+1+?b+2))),@(?a A B r1 x1 y1 ?b x2 y2),@(show ?a<i+1 by omega),@(s1.heap.objs.size+?a),@(SqL K H ?a ?b),@(So w ?hT n r kr hr (?B n ?a ?b)),@(?yV (t':=s.toks) (fp:=?a) ?b hf),@(?x (?a × ?b)),@((if r<?a then r else r+1)=p),@(by rw[show ?a=(?b-2)+2 by ext kA,qe1];simp;try omega),@(λd hd=>(?a d hd).mono ?rR),@(upd H ?a ?b),@(qa7 _ ?a),@(qa6 (?a ?b)),@(SX CS H0 ?a p q M n W t cnt ?b),@(Pw n i β c t R B ?a ?b),@(Bz (Bz R j (?a ?P)) ?P ?hZ),@(?cQ ?a z a b ?b),@(qa6 (qm9 ?a rfl ?_)),@(PE X (?bM (?c2 o ?a ?cJ) ?qW [] ?fL) (?b td ty tx)),@(?f (λk=>(if k<r then X k i else 0)*T c k) ?a),@(?a<s.heap.objs.size),@(λσ' H'=>?nN/\?a σ' ?l9),@(?n (λj=>?a j j) ?b),@(∀d o kvs,(x=?l d)->(H1 d=?nL)->(R (?a) H1)->?b),@(λk c hk hc=>?a k c hk (by rw[?b k hk];exact hc)),@(Rl ?a g ?b te D Q τ H),@(∀x c,x<w->c<n->?HF=P8 w n ?tQ (?a x) ?F6),@(Kr n W w i ?a R B t π b),@(?jW ?a (k-1) ?aN O9m O9m),@(?JT (show A+1<=-(?aG) by omega) ?a O9m O9m),@((∃c d,?b2 h TO c d)/\?lN i1 a ?a/\?lN i2 b ?b),@(?a<=sizeLine),@(?O (R:=?a) hj),@(Rep K H ?a ?b),@(?CW c k ?a (by have:=bE.inc k c O9m ?b;omega)),@(Fs ?a u v 1 1 ?b),@(?gX i ?a e3 (by have:=?qV ?b i O9m e3;omega)),@(.Tuple ?a x1 tpos),@(∀k c,k<n->c<w->?a=?b k c),@(qk8.mpr (?tL (qe2 ?a))),@(by rw[qe1];exact ql2 ?a ?b),@(λa u n1 n2 e=>by rw[Al ?a];exact ?PQ),@(show ?a<=?b by omega),@(bS n W w i G R B t b p ?d μ ?a R' B'),@(D6 n W w i G R0 B0 t π b ?t (?a).1 (?b).2),@(∀w:?k,det n (Bz (Bz A p w) ?a w)=0),@(∀j k,j<k->k<?a->?r5),@(λj=>T' j ?a),@(tupleKind_room_in1 ?a),@(qI W n R ?a),@(LX ?a C p r b sv n W ?b N),@(In n w ?dN (?aT ?a i)),@(H p=?e (.ins C dx ?a)),@(Ee n W w ?a ?b M B0 t R B),@(?j5 H ?a D ?b w f),@(?h1 P w H h a ?a),@(?A R p q a b c d ?a k),@((?a).map ?a4),@(?a l O9m h2),@(Ci n W w r ?i G M B0 kt hd ?a R2 B2),@((?a O9m).cols (λk c _ hc=>?q5) ?A7),@(?a (λp=>if ?bE then(p.1,v) else p)),@(∀c,c<n->?c1=A ?a c),@(λr l=>?a r ?bA),@(λr c hr=>(?a r c hr).trans (?b r c hr)),@(λj hj=>?a j O9m),@(show 0<=-?a by omega),@(qa6 (?a hoa hda ?b)),@(by have:=?QZ ?a ?b;rw[qe8]at this;omega),@(In w n ?a ?b),@(F6 n w ?a ?b),@(?bM (?iH ?a p) ?b [] pos),@(?a R p q a b c d ?b),@(?a ?gS X.w X.K ?hW ?v9 C m ps j sp),@(?MX ?eM (?e (?a)) ?IR ?y=pure ?c5),@(by rw[m,qc7,←qc7 ?a];exact ?y9),@(LX H' CS p ?a ?b (?e (?l q)) n W s' M),@(?cI n W ?a ?b),@(pT n ?a ?b a b=?pV),@(by have:=?qV k ?a hl1 hl2;omega),@(_*(if m<w then T m m else 0)=?a),@(T i d*(if c=d then e else 0)=?a),@(λc hc=>?a i c hi hc),@(td σ H λx H1=>?a),@(show ?a ?b ?yD from pb),@(show ?a ?b ?xZ from pa),@(qe2 (qc3 ?a)),@(hs i x y zs τ H p e1 e2 ?a hp),@(PySem.F.args_dict_get_3 _ _ ?a),@(?aV n W w ?a ?b B0 R B),@(?U λl hl=>by rw[?a l ?c];simp),@(?U λk hk=>by rw[x0 k ?a];simp),@((?a).stop i H/\?kJ),@(?a r c hr hc),@(?a j c O9m hcw hne),@(∀zs τ H,Pv ?a zs τ H->Q H),@(λσ H R=>ta σ H λvs H1=>?a),@(qb9 #[plainId_quiet Ml ?a,?_]),@(qa5 (Nat.log2_self_le O9m) ?a),@(T k ?d4*?a*(if d=k then ?b else 0)),@(Fs (Bz A q ?a) ?b8 ?e3 a b hp),@((if r<?a then ?jL else ?k0)=_),@((?y8)/\∀j,?aO->j<?a->w<=t j),@(?a j hj),@(?a ?b c O9m hc),@(λm hm=>(?a m hm).trans (?b m hm)),@(λm hm=>?a ?b O9m),@(show ?a=(ms.length-?b)+1 by omega),@(dot n w ?a ?b),@(det i (GZ V Z ?a)),@(SqT K H' L [?m g,?m a,?m ?a]),@(Ci n ?a w r n G ?b B0 kt hd t R B),@(?r ?m6 j i ?p3 ?a),@(?dX ?a i ?aP ?b),@(?R R i ?d ?a ?b),@(2 ^ (?a+?b)),@(?a t #v[key,p.2]/\?b p.1 key=true),@(∀d,?mC->?a37 ?mQ (?Q t ?a ?t ?b d)),@(BB n W C δ (β+?a4C ?a Y) (?b)),@((?a).go i H/\∃N:?mT,?a38 ?b),@(?a Ae s σ H _ I h),@(?A B p q d (-c) (-b) ?a),@(Builtin.«zip.__next__» #[[?l ?a],[]]),@(det n ?a),@(?Q t ?a ?t ?b ?aY),@(PE X (?a3D o ?a) (lO C m sp [] E0 ta ?b)),@(?g (?a3V ?a)),@(?a (t':=s1.toks) ?b),@(?b7 ?a ?y),@(∀x c,x<n->c<w->?a x c=?a3Q ?b ?g1),@(?a[i]?=?e ?b),@(?dX ?cR i (?hX) ?a),@(∀p,?dI->Q ?eW (?a4N p ?a)),@(det i ?a),@(TA ?a r as n W ?b),@((?a).natAbs<=?b),@(?a->Prop),@(?a7S ?a=- ?a7S (Bz (Bz A p v) ?b u)),@(?Q t ?aD ?dS ?a ?b)])
def JZ{X:Cx}[?aS](hc:?SX)[?uO]:Fm X (?cV "sum") (λxs H Q=>∃(p:Addr) (ns:?f8),?SJ/\?a4G p (?e0 ?a4)/\Q (?m ns.sum) H):=by subst hK;exact pR hc
def PV:?FB "sum"=?e (?cV "sum"):=?k1
def Jt{X:Cx}:P9 X (?ZL .Mult) (rI ?h9 λi j=>?m (i*j)):=opI λ_ _ _ _ _ _ _ hc q=>mul_int q hc
def mR{i:Int}{m:Nat}(h:?q3):?w9 i<=m:=by
 unfold Builtin.Int.intBits;split
 . exact ?aE
 . rename_i h0
   have hne:i.natAbs≠0:=by
    intro z
    exact h0 (by have:i=0:=O9m
                 simp[this])
   exact(?yZ hne).mpr h
def Lu[?a1Z](h:m+n<=134217728):?rC:=by
 have h1:=mR hi;have h2:=mR hj
 have h3:¬((?w9 i:Nat):Int)+((?w9 j:Nat):Int) > ((bitsLine:Nat):Int):=by
  have:bitsLine=134217728:=?vF
  omega
 unfold IntMulOk;intro hz;simp only[qb7]at hz;have h4:=hz.2;unfold Builtin.Int.intTooBig at h4;exact h3 (by simpa using h4)
def T5{i j:Int}(h1:-(2 ^ 64)<i)(h2:i<2 ^ 64):?rC:=An1.ok (?J ?eE)
universe L2
namespace L2
open PySem PySem.W PySem.Calls PyProof.Rows
abbrev Rh:Nat:=1048576
def Zc:∀{ns:?f8}{x:Int},x∈ns->?PU<=?a45 WData.weightAll
 | n::ns,x,h=>by
   rw[qc8];simp only[WData.weightAll];rcases qd9.mp h with rfl | h
   . omega
   . have:=Zc h;omega
def pP{ns:?f8}(h:WData.layableAll [?a45 WData.list]=true):?oN:=by
 intro x hx
 have h1:?a7 (?UT (?a45 WData.list)<=2 ^ 20)=true:=by
  have:WData.layable (?a45 WData.list)=true:=by simpa[WData.layableAll]using h
  unfold WData.layable at this;exact(Bool.and_eq_true_iff.mp ?I).2
 have h2:?a45 WData.weightAll<=1048576:=by
  have:=qc2 h1;simpa only[WData.weight]using this
 have h3:=Zc hx;by_cases h0:x.natAbs=0
 . rw[h0];exact Nat.pow_pos ?T
 . have h4:?PU=x.natAbs.log2+1:=by
    simp only[WData.weight];rw[?g λz=>h0 (by rw[show x=0 by simpa using z];rfl)]
   have h5:x.natAbs.log2<Rh:=by show _<1048576;omega
   exact(?yZ h0).mp h5
def fM{l:OpenLaw}{n:Nat}[?a11]
 (hn:?UU) (hdf:?YS)
 (call:∀(w:World) (s₀ s₁:Shared) (mg mb:?lR) (fa:Addr) (o:Obj) (pm cd doc:Value) (a:Addr) (vs:?rV) (ns:?f8),(?oN) →
   Ground q loose [] XP w s₀ mg mb ?CK->YP w ?CK →
   ?I9 fa=?M->o.data=.func (docDef ?vO d.params d.body d.scope pm cd doc)->s₁.heap.CodeRec cd ?vO->?PY →
   ?I9 a=?e { cls:=?rJ,data:=?gE vs.toArray }->IntsAre vs ns->?X0->s₁.gens=#v[] →
   codeAny (model l.prog w) callerA (.call ?KA #[?jF,[]]) (λr s'=>r=.ok (.ret (?sV))/\OldK ?CK s'.heap/\s'.os=s₁.os/\AllBare s'.gens) s₁) :
 ?a49 WalkO:=by
 intro w s₀ s₁ mg mb G Y fa o pm cd doc dV kV ho hd hcd hD hmg hg args vals as hpre hlay hrd hwl hlo;obtain rfl:dV=?aB:=Dflts.none hD hdf;obtain rfl:kV=?aB:=Dflts.noKw hD;let#[a,vs,ns,rfl,rfl,hobj,hints,?iO]:=Att.script_of hn hpre hwl;apply enter_call (codeAny_mono (?f9 w s₀ s₁ mg mb fa o pm cd doc a vs ns (pP hlay) G Y ho (fd_plain hd) hcd hmg hobj hints ?iO hg) λr s' hq=>?_);let#[rfl,h2,h3,h4]:=hq;exact#[?J #[?sV,?sV,[],rfl,?HW,?sV,Att.post_true l _,λ_=>#[List.Pairwise.nil,λ_ hm=>(nomatch hm)]],h2,h3,h4]
def walk_ofB{l:PySem.W.OpenLaw}{n k:Nat}[?a11]{K:Params->PySem.W.Frag}{CX:World->UU}{sp:World->Sp}{x:Str}
 (hn:?UU) (hn2:?a58 n) (hdf:?YS) (hr:Hk k callerA)
 (hY:∀(w:World) (h:Heap),YP w h->?vZ h)
 (F:∀(w:World) (mg:?lR) (fa:Addr) (h:Heap),?vZ h->h.Ns ?IG mg->?PY →
   ∃fd:FuncData,(∀(s:Shared) (u:Value),BindsTo s fd #[[u],[]] [(x,u)]) ∧
     ∀base:Heap,?vZ base->base.Ns ?IG mg->Bv l.prog w (K w.params) mg base (CX w) k fa fd [x] (sp w))
 (mH:∀(w:World) (H:Hp) (a:Addr) (ns:?f8),?X0->(?oN)->Al8 H->SqL (K w.params) H a (?e0 ?a4)->sp w ?jF H (λv _=>v=?tT) ?S4)
 (hCX:∀(w:World) (H:Hp) (s:Shared) (e:Value) (s':Shared),CX w [] H s (?S4) e s'->False) :
 ?a49 PySem.W.WalkO:=by
 apply fM hn hdf λw s₀ s₁ mg mb fa o pm cd doc a vs ns Ai3 G Y ho hd hcd hmg hobj hints hlen hg=>?_;have KX:=hY w _ Y;let#[fd,hb,hF]:=F w mg fa _ KX G.T.g hmg;exact SV KX G.T.g G.T.b G.T.builtins G.T.nolimit hg hobj hints (qa5 ?iO hn2) hr hF hb (λH hO hS=>mH w H a ns ?iO Ai3 hO hS) λH e s'=>hCX w H s₁ e s'
universe L2
namespace Hb
abbrev sumN[?K]:?k
 | 0=>0
 | n+1=>?i6
def Ah{f g:?k}:∀{n:Nat},(∀k,k<n->f k=g k)->?c8=?lY
 | 0,_=>rfl
 | n+1,h=>by
   show ?i6=?lY+g n;rw[Ah ?XJ,h n ?c]
def Rp:∀n:Nat,?f (?cT) n=0
 | 0=>rfl
 | n+1=>by show ?n8+0=0;rw[Rp n];rfl
def Cm(f g:?k):∀n:Nat,?f (λk=>f k+g k) n=?c8+?lY
 | 0=>rfl
 | n+1=>by
   show ?n8+(f n+g n)=(?i6)+(?lY+g n)
   rw[Cm f g n];omega
def Ay(c:Int)[?K]:∀n:Nat,?f (λk=>c*f k) n=c*?c8
 | 0=>by show ?dD=c*0;rw[qd4]
 | n+1=>by
   show ?n8+c*f n=c*(?i6);rw[Ay c f n,Int.mul_add]
def Db(c:Int)[?K](n:Nat):?f (λk=>f k*c) n=?c8*c:=by
 rw[qe8,←Ay];exact Ah λk _=>?rQ
def B5[?uR](m:Nat):∀n:Nat,?f (λi=>?f ?cD m) n=?f (λj=>?GT) m
 | 0=>(Rp m).symm
 | n+1=>by
   show ?n8+?f (f n) m=?f (λj=>?GT+f n j) m;rw[B5 f m n,Cm]
def Dv[?K](i:Nat):∀n:Nat,?f (λk=>(if k=i then 1 else 0)*f k) n=if i<n then f i else 0
 | 0=>?TC
 | n+1=>by
   show ?n8+(if n=i then 1 else 0)*f n=_;rw[Dv f i n];by_cases h:n=i
   . subst h;simp
   . by_cases h2:i<n
     . rw[?jO,?j2,?N];omega
     . rw[?eI,?j2,?q];omega
abbrev Ii(n:Nat)[?K]:?f8:=?Y4 f
def Iu(n:Nat)[?K]:(?hG).length=n:=by unfold Ii;rw[qa4,qp7]
def R6{n i:Nat}[?D](h:i<n):?a7Z (?hG) ?cD:=by
 unfold Ii;rw[qb0,?ZR h];rfl
def j4(n:Nat)[?K]:?M0=?hG++[f n]:=by
 unfold Ii;rw[qk9,qb4];rfl
def CD[?a2O]:?hG=Ii n g:=by
 unfold Ii;apply qo2 λi hi=>h i (qe9.mp hi)
def wV(n:Nat):(?S7 n [?dD]).flatten=?LO:=by
 induction n with
 | zero=>rfl
 | succ n ih =>
   rw[j4,←ih];clear ih
   induction n with
   | zero=>rfl
   | succ n ih =>
     rw[qj6,ql8,ih];have ih':=ih;rw[qj6,ql8]at ih';rw[←qx6,ih']
def Ud[?a1Z]:?HK<?VO:=by
 rw[qb2,qe1];exact ql2 hi hj
def LB{i j:Int}{m:Nat}(hi:?q3)(hj:j.natAbs<?sT):(i+j).natAbs<2 ^ ?mR:=by
 have h:=qf3 i j;rw[qh2];generalize ?sT=q at *;omega
def xR{i:Int}{m n:Nat}(hi:?q3)(h:m<=n):i.natAbs<2 ^ n:=qb5 hi (?PI)
def Uc[?D]{m:Nat}:∀{n:Nat},(∀k,k<n->?AR<?sT)->?XD<?VO
 | 0,_=>by show ?KD<_;exact Nat.pow_pos ?T
 | n+1,h=>by
   have h1:=Uc (n:=n) (f:=f) ?gB;show ?KR<2 ^ (m+n+1);exact LB h1 (xR (?rU) (qh0 m n))
universe Hb
namespace Hb
open PySem L2
noncomputable abbrev VI(n:Nat)[?K]:?bS:=?a5Y ?hG
abbrev dL(n:Nat)[?K]:L2.D:=?F (E4 (?hG))
abbrev dT(h w:Nat)[?uR]:L2.D:=?F ((?LK h).map ?vW)
section
variable[?aS]{H H' H1 H2:Hp}
def Bu(n:Nat)[?K]:?F3=n:=by rw[qa4,Iu]
def Co{n i:Nat}[?D](h:i<n):?a7Z ?lP (?m ?cD):=by rw[qb0,R6 h];rfl
def A86{n i:Nat}[?D](h:i<n):BP ?lP ?T1=?e (?m ?cD):=Bo (Co h)
def Xm{n i:Nat}[?D]{u:V}(h:?lP[i]?=?nG):i<n/\u=?m ?cD:=by
 have h1:i<?F3:=(?gT h).1;rw[Bu]at h1;rw[Co h1]at h;exact#[h1,(qa8 h).symm]
def V0(n:Nat)[?K]:VI ?H f=?r7++[?m (f n)]:=by
 show ?a5Y ?M0=_;rw[j4,qb4];rfl
def Rk[?a2O]:?r7=VI n g:=by
 show ?a5Y ?hG=(Ii n g).map ?a4;rw[CD h]
def Al4(n:Nat):(?S7 n [?a4 0]).flatten=VI n ?cT:=by
 show _=?a5Y ?LO;rw[←wV,List.map_flatten,List.map_replicate];rfl
def A79{v:V}{n:Nat}[?D](h:?a5A v ?RI):∃a,v=?aW/\?yW:=by
 let#[a,vs,e,q,r]:=h;rw[Fg.mp r]at q;exact#[a,e,q]
def uB{a:Addr}{n:Nat}[?D](h:?yW):?a5A ?cU ?RI:=#[a,_,rfl,h,Fg.mpr rfl]
def Iz{v:V}{h w:Nat}[?d8](r:?HT):∃a us,v=?aW/\?X3/\?yS/\∀i u,us[i]?=?nG->i<h/\∃b,u=?aM/\?MC:=by
 let#[a,us,e,q,r]:=r;have hl:?yS:=by have:=r.length;simpa using this
 apply#[a,us,e,q,hl,λi u hu=>?_];have hi:i<h:=by have:=(?gT hu).1;omega
 let#[d,hd,rd]:=r.getV hu;rw[qb0,?ZR hi]at hd;have e2:d=?JA:=(qa8 hd).symm;subst e2;exact#[hi,A79 rd]
structure Rows(H H1:Hp)(D:Addr)(as:?eT)(w:Nat)[?uR]:Prop where
 same:?v3
 free:?lG
 «at»:H1 D=?a3M (?eG)
 row:∀j a,as[j]?=?e a->?D1/\a≠D/\H1 a=?a3M (VI w ?lF)
def Rows.nil{D:Addr}{w:Nat}[?d8](h:?lG):?j5 H (?a4N D (?F [])) D [] w f:=#[Same.new h,h,Ab,λj a e=>?AX]
def Rows.push{D b:Addr}[?hP]{w:Nat}[?d8][?k5](hb:H1 b=none)(s:?QA)(h2:H2 b=?a3M (VI w (f as.length))):?a5V (upd H2 D (?F (?eG++[?aM]))) (as++[b]):=by
 have hne:b≠D:=λz=>by rw[z,R.at]at hb;cases hb
 apply#[(R.same.trans s).turn ?mU,?mU,by rw[Ab,qb4];rfl,?a05];by_cases hj:j<as.length
 . rw[qc9 hj]at e;let#[h1,h2',h3]:=?l4;exact#[h1,h2',by rw[Al h2'];exact s _ _ h3]
 . have hl:j<(as++[b]).length:=(?gT e).1;have ej:j=as.length:=by simp at hl;omega
   subst ej;have eb:b=a:=?m3
   subst eb;exact#[R.same.free hb,hne,by rw[Al hne];exact h2]
def Rows.rep{D:Addr}[?hP]{h w:Nat}[?d8][?k5](hl:?qU):Rep K H1 ?g0 ?pM:=by
 apply#[D,_,rfl,.of R.at,?_];subst hl
 have go:∀(bs:?eT) (n:Nat),(∀j a,bs[j]?=?e a->H1 a=?a3M (VI w (f (n+j))))->Reps K H1 (?J6) ((?xD n bs.length).map ?vW):=by
  intro bs
  induction bs with
  | nil=>intro n _;rfl
  | cons b bs ih =>
    intro n hr;apply#[?aM,?J6,rfl,uB (.of ?_),?_]
    . have:=hr 0 b rfl;simpa using this
    . apply ih ?H ?a05;have:=hr ?P a ?tF;rw[?MV];ext a3
 have:=go as 0 λj a e=>by rw[qs5];exact ?BU
 rw[List.range_eq_range'];ext a3
def Rows.later{D:Addr}[?hP]{w:Nat}[?d8][?k5](s:?QA):?a5V H2 as :=
 #[R.same.trans s,?mU,s _ _ R.at,λj a e=>#[(?l4).1,?XY,s _ _ ?BU]]
def Rows.earlier{H0:Hp}{D:Addr}[?hP]{w:Nat}[?d8](s:?S6)[?k5]:?j5 H0 H1 D as w f :=
 #[s.trans R.same,?wU ?mU,R.at,λj a e=>#[?wU (?l4).1,?XY,?BU]]
def cX{g:TG}[?u3][?aS]{a b:Addr}{xs ys:?bS}{n:Nat}(hn:n=min xs.length ys.length)[?a2I](hl:∀i zs τ H,?hU->?gF->?a4G a xs/\?a4G b ys)
 [?a0G]
 [?E3]:?a52 (zJ K a b) NN:=IG hn Pv h0 hl (λi x y zs τ H p e1 e2 pp hp=>?a6S pp) hd
universe e9
abbrev newL(H:Hp)(n:Nat)[?K](Q:V->?g8):Prop:=∀(D:Addr) (H':Hp),?lG->?d2->H' D=?a3M ?lP->?CR
abbrev wO(H:Hp)(h w:Nat)[?uR](Q:V->?g8):Prop:=∀(D:Addr) (as:?eT) (H':Hp),?qU->?a5V H' as->?CR
section
variable[?c0]
abbrev bX:Sp:=λvs H Q _=>Ye λ ?qO (h w j:Nat) ?r0=>C9 (vs=[v,?pK]) ?oU ?qH (j<w) (newL H h (λi=>f i j) Q)
abbrev Jf:Sp:=λvs H Q _=>Tb λ ?qO ?AS ?r0=>C9 (vs=[v,?m w]) ?oU ?qH ?p4 (wO H w h (λi j=>f j i) Q)
universe e9
section
variable[?c0]
abbrev Y2:Sp:=λvs H Q _=>Ko λ ?U5 (ns:?f8)=>C9 (vs=?jF) (?a4G a (?e0 ?a4)) (ns.length<=63) ((?oN)) (∀H',?z8)
abbrev Up:Sp:=λvs H Q _=>zR λ(a b:Int) (x y:Addr) (n:Nat) (p q:?k)=>Hz (vs=[?m a,?l x,?m b,?l y]) (?a4G x (VI n p)) (?a4G y (VI n q)) ?kN ((∀j,j<n->?h9 a (p j)/\?h9 b (q j))) (newL H n (λj=>a*p j+b*q j) Q)
abbrev Su:Sp:=λvs H Q _=>lG λ(x:Addr) ?qO ?AS (a:?k) ?r0=>Nm (vs=[?l x,v,?m w]) (?a4G x (VI h a)) ?oU ?qH ?p4 ((∀k j,k<h->j<w->?h9 (a k) (f k j))) (newL H w (λj=>?f (λk=>a k*f k j) h) Q)
abbrev Tg:Sp:=λvs H Q _=>zR λ(u v:V) (h d w:Nat) (f g:?dY)=>fQ (vs=[u,v,?m w]) (?a5A u (dT h d f)) (?a5A v (dT d w g)) ?qH (d<=1000) ?p4 ((∀i k j,i<h->k<d->j<w->?h9 (f i k) (g k j))) (wO H h w (λi j=>?f (λk=>f i k*g k j) d) Q)
abbrev Zn(_K:W.Frag):Sp:=λvs H Q _=>∃n i:Nat,vs=[?sI,?lE]/\?wK/\newL H n (λj=>?AW) Q
abbrev dO(_K:W.Frag):Sp:=λvs H Q _=>∃n:Nat,vs=[?sI]/\?wK/\wO H n n (λi j=>?AW) Q
universe e9
universe Hb
namespace L2
open PySem PySem.Spec PyProof.Rows
structure K0[?EJ][?c0][?DT](m:Str)[?E8]:Prop where
 ex:∃(f:Addr) (fd:FuncData),uI K C m f/\?yM
structure iU[?EJ][?c0][?DT][?E8]:Prop where
 ex:∃(f:Addr) (fd:FuncData),Mk K C f/\?yM
section
variable{X:Cx}[?aS][?a2V]{x m f:Str}{p pos apos pos':Pos}{e o value:Expr}[?o7]{ta tv:TE}{t:TA}
def C7[?a0Z](ha:?MM)[?EL]
 [?a1A] (hpl:?yI (·.1)=false:=by rfl)
 (ht:?a7X (?a3D o ?f7)=(do
   let ov ←?sG
   ?zG
   let ?AK ←?yA
   ?XW):=by rfl) :
 ?a7U ?f7 t:=by
 ext EA;exact wC he c h1 h3 ?t8 h2 ?a8 gP ha hst hpl ht
def Ny[?a0Z][?EL]
 (ht:?a7X (?a3D o [])=(do
   let ov ←?sG
   ?zG
   let ?AK ←?yA
   ?a40 (?eN [] ?y)):=by rfl) :
 ?a7U [] Aa1:=by
 ext EA;exact RJ he c h1 h3 ?t8 h2 ?a8 gP ht
def Nz(h:iU ?gS X.w X.K ?hW ?v9 C ps j sp)[?a1K](hk:j+1<=k:=by decide)[?a2K]
 (he:?x8=?vL::?vY:=by rfl) (hpl:?yI (·.1)=false:=by rfl):PE X (?a6C x ?f7) (yE C sp [] E0 t):=by
 ext EA;exact WC h1 h3 ?t8 hg hm h2 ?a8 gP ha hdb he hpl
def Bd(he:PE X e ta)[?uO](hb:?yC e f ?y (?nK)=?nK:=by rfl):PE X (?c2 e f pos) (Au1 K ta f):=by subst hK;exact Ac6 he hb
def Fc(ha:?XZ)(hv:?K4)[?uO](hs:?a6F ?RS:=by rfl):PS X (.Assign [?RS] ?eM pos) (Av3 K ta tv f):=by subst hK;exact Ac1 ha hv hs
universe e9
noncomputable abbrev TJ:=St->Hp->?a85 (?g8)
section
variable{X:Cx}{e v₁ v₂:Expr}{es rest:?f2}{te:TE}{tj:TJ}{pos:Pos}
universe e9
universe L2
namespace Hb
open PySem L2
inductive Tn where
 | mi (i:Nat) | sw (i j:Nat) | ad (i j:Nat) (n:Int)
abbrev VB:Tn->L2.D
 | .mi i=>?aR [.str "minus",?lE]
 | .sw i j=>?aR [.str "swap",?lE,?pK]
 | ?tM=>?aR [.str "add",?lE,?pK,?sI]
abbrev VG:Tn->(?dY)->?dY
 | .mi i,f=>λr c=>if r=i then -(?pA) else f r c
 | .sw i j,f=>λr c=>if r=j then ?pA else if r=i then f j c else f r c
 | ?tM,f=>λr c=>if r=i then 1*?pA+n*f j c else f r c
abbrev tnB:Tn->Tn
 | ?tM=>.ad i j (-n)
 | t=>t
abbrev tnA:Tn->Tn
 | ?tM=>.ad j i (-n)
 | t=>t
abbrev tB(B:Nat):?YF
 | .ad _ _ n=>n.natAbs<2 ^ B
 | _=>True
def Nu{f:Str}{v:V}:∀{fs:?a4J Str V}{x:V},?m0 f=?eP->(putF f v fs).length=fs.length
 | [],x,h=>by cases h
 | (g,y)::r,x,h=>by
   unfold putF;by_cases e:g=f
   . rw[?bK];rfl
   . rw[?bN,qd6,qd6];rw[qq6]at h;have e2:(f==g)=false:=by simpa using ?iM
     rw[e2]at h;rw[Nu h]
abbrev Vd(H:Hp)(Z:?dR):Hp:=λa=>@ite _ (Z a) (Classical.propDecidable _) none (H a)
section
variable[?aS]{H H' H1:Hp}{Z:?dR}
def Vc{a:Addr}(h:¬Z a):?QY=H a:=by unfold Vd;rw[?j2]
def v5{a:Addr}(h:Z a):?QY=none:=by unfold Vd;rw[?qL]
def N6:?h6 ?MB H:=λa o e=>by
 by_cases h:Z a
 . rw[v5 h]at e;cases e
 . rw[Vc h]at e;exact e
def CK(h:∀a o,¬Z a->?H7):?MN:=λa o e=>by
 by_cases hz:Z a
 . rw[v5 hz]at e;cases e
 . rw[Vc hz]at e ⊢;exact h a o hz e
def QW(s:?d2):?MN:=CK λa o _ e=>s a o e
def iF{a:Addr}{us:?bS}{h w:Nat}[?d8](hq:?X3)(hl:?yS)(hr:∀i,i<h->∃b,us[i]?=?BE/\?MC):?a5A ?cU ?pM:=by
 apply#[a,us,rfl,hq,?_];subst hl
 have go:∀(vs:?bS) (n:Nat),(∀j,j<vs.length->∃b,vs[j]?=?BE/\?a4G b (VI w (f (n+j))))->Reps K H vs ((?xD n vs.length).map ?vW):=by
  intro vs
  induction vs with
  | nil=>intro n _;rfl
  | cons v vs ih =>
    intro n hv;let#[b,e,hb]:=hv 0 ?bG;have ev:v=?aM:=?m3
    subst ev;apply#[?aM,vs,rfl,uB ?sN,?_];apply ih ?H ?a5;let#[b',e',hb']:=hv ?P (by simpa using hj);apply#[b',by simpa using e',?_];rw[?MV];exact hb'
 have:=go us 0 λj hj=>by rw[qs5];exact ?a78 hr
 rw[List.range_eq_range'];ext a3
def Rows.hid{D:Addr}[?hP]{h w:Nat}[?d8][?k5](hl:?qU)(hz:∀a,Z a->?rW):Rep K (Vd H1 Z) ?g0 ?pM:=by
 have nz:∀a,?D1->¬Z a:=λa e z=>hz a z e;apply iF (us:=?eG) (.of ?_) (by rw[qa4];exact hl) ?q2
 . rw[Vc (nz D ?mU)];exact R.at
 . have hi':i<as.length:=O9m
   let ?pZ:=R.row i as[i] (qa0 hi');apply#[as[i],by rw[qb0,qa0 hi'];rfl,.of ?_];rw[Vc (nz _ h1)];exact h3
universe e9
section
variable[?c0]
abbrev J3:Sp:=λvs H Q _=>Nl λ ?U5 (n:Nat) (f:?k)=>By (vs=[?aW,?sI]) (?yW) ?kN (∀H',?d2->?z8)
abbrev Xt:Sp:=λvs H Q _=>Tb λ ?qO ?AS ?r0=>C9 (vs=[v,?m w]) ?oU (h<=40) ?p4 (∀H',?d2->?z8)
abbrev bY:Sp:=λvs H Q _=>Ko λ(u:V) ?CY=>Ev (vs=[u]) (?a5A u (VB t)) (∀(v:V) (H':Hp),?d2->Rep K H' v (VB ?D4)->Q v H')
variable(CL CT:Addr)
universe e9
section
variable[?aS][?a1V][?d8]{ds:?a4J Bool Tn}
abbrev Ls(H H':Hp):Prop:=∀c q,H c=?ON->H' c=?ON
abbrev Kp(H H':Hp):Prop:=∀a,?rW->H' a≠none
def Kp.trans{H H1 H2:Hp}(x:?BR)(y:Kp H1 H2):Kp H H2:=λa e=>y a (x a e)
def Kp.of{H H1:Hp}(s:?v3):?BR:=λa e z=>e (?wU z)
def Kp.upd{H:Hp}{p:Addr}{o:HO}:Kp H (?a4N p o):=λa e z=>by
 by_cases hap:a=p
 . rw[hap,Ab]at z;cases z
 . rw[Al hap]at z;exact e z
def Kp.x{H H1:Hp}{p:Addr}{o:HO}(s:SameX p H H1)(hp:H1 p=?M):?BR:=λa e z=>by
 by_cases hap:a=p
 . rw[hap,hp]at z;cases z
 . cases q:H a with
   | none=>exact e q
   | some o'=>rw[s a o' hap q]at z;cases z
universe e9
section
variable[?c0]
universe e9
section
variable[?aS][?a1V][?d8]{ds:?a4J Bool Tn}
universe e9
universe Hb
namespace L2
open PySem PySem.Spec PyProof.Rows PySem.W
section
variable{X:Cx}
abbrev V4(_i j:Int):Prop:=j≠0/\j.natAbs.log2<9000
def V4.of{i j:Int}(h0:j≠0)(h:j.natAbs<?AH):V4 i j:=#[h0,(?yZ O9m).mpr h]
def J4:P9 X (?ZL .FloorDiv) (rI V4 λi j=>?m (i.fdiv j)):=opI λ_ _ _ _ _ _ _ hc q=>floordiv_int hc.1 q (?J (PyProof.noPylong_of_log2 hc.2))
abbrev insAt[?EC]:?oX:=xs.take k++y::xs.drop k
inductive iT(x:V)(vs:?bS)(H:Hp)(Q:VK):Prop
 | mk:∀(l:Addr) (xs:?bS) (k:Nat) (y:V),(x=?pL)->(vs=[?m k,y])->(H l=?a3M xs)->(?IA)->(xs.length<sizeLine)->(Q .non (?a4N l (?F (?y4))))->?K0
abbrev vS:V->?rY:=λx vs H Q=>?K0
def Wy:MtM X "list.insert" vS:=by
 intro Ae s σ H x vs v us Q I rx rv h;let#[l,xs,k,y,rfl,rfl,hH,hk,hz,q]:=h;cases rx;let#[u1,u2,rfl,r1,r2]:=Ze rv;let ?iP:=r1;let#[z,its,n,r,hl,e]:=I.lstM hH
 have hsl:((k:Nat):Int)<2 ^ 63:=by
  have h1:?a58 k:=O9m
  have h2:sizeLine<=2 ^ 62:=?k1
  have h3:=qa5 h1 h2;omega
 have hfit:¬(!Builtin.List.listFitsIndex (k:Int))=true:=by
  rw[fitsIndex_both ?c hsl];exact qe3
 have hsz:?a58 its.toArray.size:=by rw[qc5];omega
 obtain⟨ki,hki⟩:∃ki:Int,ki=(k:Int):=?HJ
 rw[←hki]at hfit ⊢;have hm:=AutoSeq1.list_insert_list_int_val_1 l ?tK n ki t u2 hfit hsz;apply ?RH F.slot_list_insert #[_,e,rfl] F.entry_list_insert (F.args_list_insert_3 _ _ _) hm #[e,?_];apply#[.non,_,I.lset (its':=?g9 k u2 its) hH e ?_ ?_ ?_,rfl,q]
 . have hkl:k<=its.length:=O9m
   have hkn:ki.toNat=k:=O9m
   simp only[qc5,hkn];rw[?q,?WE hkl];refine Array.ext';simp only[insAt,Array.toList_append,Array.toList_push,Array.toList_extract,List.extract_eq_drop_take,List.drop_zero,qx8];rw[qx6,qj5 (i:=its.length-k) (by rw[qj3];omega)];rfl
 . exact(r.take k).append (?cH r2 (r.drop k))
 . unfold insAt;rw[qc6,qd6,qd5,qj3];omega
structure Ba4(K:Frag)(D:Addr)(m:Str)(f:Addr):Prop where
 rd:readsIn K D (?aI "type")=true
 fc:findCls K ?g0 (?aI "type") m=?e (.val (?l f))
 ga:specialIn K ?g0 "__getattribute__"=?e (?e (?cV "type.__getattribute__"))
 kp:W.keepIn K (?l f)=true
structure Am5[?EJ](K:Frag)[?DT](m:Str)[?E8]:Prop where
 ex:∃(f:Addr) (fd:FuncData),Ba4 K C m f/\?yM
def WD[?a2V]{x m:Str}{np apos pos:Pos}{e:Expr}[?o7]{t:TA}{pl:?K5}(h:?a6E Am5)[?a1K][?EL]
 [?a2K] [?a1A] (hpl:?yI (·.1)=false:=by rfl)
 (ht:?a7X (?a3D (?iH x np) ?f7)=(do
   let ov ←?a7X (?iH x np)
   ?zG
   let ?AK ←?yA
   ?XW):=by rfl) :
 PE X (?a3D (?iH x np) ?f7) (tCall sp [] E0 t):=by
 let#[f,fd,B,hb,F]:=h.ex;ext uJ;apply qq0 (pl:=pl) (Y7 I hg hm ?_ hdb) ht;apply method_cls I.kIn B.ga (cls_value I.kIn B.rd B.fc rfl ?_);apply qs4 (h₀:=X.base) I.ok.mod.kin B.kp (Dz (ha pos Ae _ σ H _ ?mG h) λus s1 #[vs,H1,I1,r,q]=>#[I1.kIn,?_]) hst hpl;exact DS F ?t8 hb ?a8 gP I1 r q
universe e9
universe L2
namespace L2
open PySem PySem.Spec PyProof.Rows
section
variable[?fC][?bV][?e8]
def Ki[?a32]{x:Value}[?bX][?a25](gx:vs[n]?=?eP)
 (k:∀h',?kL j t ?H->?DF j ?X h'->Q x ?iE):?R6:=by
 ext a0E;simp only[qf9,gx];apply qa6 (?JF q1 q3 ?bG (qb9 #[x,rfl,qb9 (k _ ?_ (Heap.SameBut.update ..))]));exact#[_,Heap.get?_update_self _ q1 (Obj.isFreed_of_fields (?VZ q3 _)),(Obj.cls_mapFields ..).trans q2,by rw[?VZ q3];simp[rawInt]]
def Q3[?a32][?bX][?EN][?a25](gx:vs[n]?=none)
 (k:∀h' e,Heap.ExtBut j ?X h'->?KL):?R6:=by
 ext a0E;simp only[qf9,gx];apply ?a4P qx2 (qa6 (?JF q1 q3 ?bG ?_));show ?a39 (newExc (?aI ?CZ) []>>=_) _;apply ?j8;simp only[newExc,newTuple];apply qa6 (?T3);apply qa6 (m:=firstArgMember _ _) (wpAny_of_eq (a:=Value.none) (by first | rfl | (simp only[firstArgMember];rfl)) ?_);apply ?T3;simp only[raiseNew];apply ?a4P wpAny_handled ?_
 first | rw[show A.in1.handled=none from hn] | rw[hn]
 apply ?a4P qb9 (wpAny_throw ?_);exact k _ _ (((Heap.SameBut.update ..).extBut.push _).push _) #[_,?gR,rfl]
def NC[?u2]{x y u v:Value}[?bX][?tW]
 [?tX] [?a2U]
 (k:∀h',?GP->?QV->?U8->?OP->?QX->?JI →
   ?tA->Q (?eV) ?iE) :
 ?p ?Y A (?a7R z) (λfin s'=>∃r,fin=.done (.ret r)/\Q r s') E s:=by
 ext a2G;ext a0F
 replace gz1:?XI:=gz1
 ext a0H;apply qa6 (Ki (g1.extBut ?e4 D.i1z) (e1.extBut ?e4 D.l1z) gx λk2 f1 w2=>?mH);have gb2:?b2 k2 b u v:=?n4 _ _ D.TOi1 (?e4 _ _ D.TOz gb);apply ?a4U gb2;apply qa6 (?FC gb2 λk3 gb3 w3=>?_)
 replace gb3:?b2 k3 b x v:=gb3
 apply ?a4P ?W2 ?mS;apply ?a4P qa6 (wpAny_onRaise ?_);show ?a39 (?CQ (?l i2)>>=_) _;apply qa6 (Ki (((g2.extBut ?e4 D.i2z).extBut ?n4 D.i12.symm).extBut ?hB ?KW) (((e2.extBut ?e4 D.l2z).extBut ?n4 D.l2i1).extBut ?hB D.l2TO) gy λk4 f2 w4=>?mH);have gb4:?b2 k4 b x v:=?pI _ _ D.TOi2 gb3;apply ?a4U gb4;apply qa6 (?FC gb4 λk5 gb5 w5=>?_)
 replace gb5:?b2 k5 b x y:=gb5
 apply ?a4P ?W2 ?LR;apply ?a4U gb5;apply ?a4P wpAny_newTuple ?_;have sz:k5.objs.size=s.heap.objs.size:=by rw[w5.1,w4.1,w3.1,w2.1,w1.1]
 have gz5:?a4T k5 ?sJ:=?sY _ _ ?ND (?pI _ _ D.i2z.symm (?hB _ _ ?ND (?n4 _ _ ?WG gz1)));have kp:∀c o,c≠z->c≠b->c≠i1->c≠i2->?QQ->k5.get? c=?M:=λc o c1 c2 c3 c4 e=>?sY _ _ c2 (?pI _ _ c4 (?hB _ _ c2 (?n4 _ _ c3 (?e4 _ _ c1 e))));have f15:?IL i1 t1 ?H:=((f1.extBut ?hB ?FA).extBut ?pI D.i12).extBut ?sY ?FA;have f25:?IL i2 t2 ?mR:=f2.extBut ?sY ?KW;have lz:z<k5.objs.size:=qc3 gz5;show ?a39 (Builtin.SmallTypes.ownedTupleHandOut ?jJ ?WR>>=_) _;apply ?j8;unfold Builtin.SmallTypes.ownedTupleHandOut;have gz6:?a4T (k5.push { cls:=?sR,data:=?gE #v[x,y] }) ?sJ:=?a4O gz5;apply qa6 (qi5 gz6 ?bG λk7 gz7 w7=>?_)
 replace gz7:?a4T k7 ?WA:=gz7
 apply qi5 gz7 ?bG λk8 gz8 w8=>?_
 replace gz8:?a4T k8 ?WA:=gz8
 have up:∀c o,c≠z->k5.get? c=?M->k8.get? c=?M:=λc o c1 e=>?QW _ _ c1 (?RC _ _ c1 (?a4O e));have gt:?b2 k8 ?wT x y:=?QW _ _ ?S8 (?RC _ _ ?S8 (?gR));have s8:k8.objs.size=k5.objs.size+1:=by rw[w8.1,w7.1,qi2]
 rw[sz]at gz8 gt s8;apply qb9 ?JP;show Q ?WR _;rw[sz];exact k k8 gz8 (up _ _ D.TOz gb5) (f15.at λo e=>up _ o D.i1z e) (f25.at λo e=>up _ o D.i2z e) gt s8 λc o c1 c2 c3 c4 e=>up c o c1 (kp c o c1 c2 c3 c4 e)
def QJ[?u2]{u v:Value}{Q:PySem.Fin->?jX}[?EN][?tW]
 [?tX] (gx:?H2)
 (k:∀h' e,?tA->?KL) :
 ?a3A ?Y (?a7R z):=by
 ext a2G;ext a0F
 replace gz1:?XI:=gz1
 ext a0H;apply qa6 (Q3 hn (g1.extBut ?e4 D.i1z) (e1.extBut ?e4 D.l1z) gx λk2 e w2 he=>?_);let#[oe,ge,ce]:=he;have gz2:?a4T k2 ?sJ:=w2 _ _ ?WG gz1;have ne:e≠z:=λq=>by subst q;rw[gz2]at ge;cases ge;simp at ce
 apply qi5 gz2 ?bG λk3 _ w3=>k k3 e (λc o c1 _ c3 _ q=>?hB _ _ c1 (w2 _ _ c3 (?e4 _ _ c1 q))) #[oe,?hB _ _ ne ge,ce]
def i4[?u2]{x y u v:Value}[?E5][?tW]
 [?tX] [?a2U]
 (k:∀h',?GP->?QV->?U8->?OP->?QX->?JI →
   ?tA->Q (?e (?eV)) ?iE):?FI:=by
 ext a2B
 unfold pyNext;exact ?a3K (NC D gz ga gb g1 g2 e1 e2 gx gy λh' a1 a2 a3 a4 a5 a6 a7=>qb9 (k h' a1 a2 a3 a4 a5 a6 a7))
def bA[?u2]{u v:Value}[?E5][?EN][?tW]
 [?tX] (gx:?H2)
 (k:∀h',?tA->Q none ?iE):?FI:=by
 ext a2B
 unfold pyNext;apply ?a3K (QJ hn D gz ga gb g1 g2 e1 e2 gx λh' e kp he=>?_);let ?EY:=he;exact qa6 (qv7 (T:=?CZ) (b:=true) ?EY isSubtype_stop (qb9 (k _ kp)))
universe e9
noncomputable abbrev zt1(h:Heap)(a:Addr):Heap:=h.push ?K9
noncomputable abbrev zt2[?uN]:Heap:=(zt1 h a).push { cls:=?aI "tuple_iterator",data:=?gO #v[?aM,?yE] }
noncomputable abbrev zt3[?uN]:Heap:=(?NL).push { cls:=?sR,data:=?gE #v[?l ?YN,?l (zt1 h a).objs.size] }
noncomputable abbrev zt4[?uN]:Heap:=(?R3).push { cls:=?sR,data:=?gE #v[?aB,?aB] }
noncomputable abbrev ZT[?uN]:Heap:=(zt4 h a b).push { cls:=?t3,data:=?gO #v[?aB,?AM,?AM,?l (?NL).objs.size,?l (?R3).objs.size] }
def qJ(a b:Addr)(xs ys:?jY):Meets (Builtin.«zip.__new__» #[[?t3,?aW,?aM],[]]) (λ_ R s=>?NH/\?PA/\R (.ok (.ret (?l ?xF))) { s with heap:=?zE }) :=
 .of_wp λprog w A R s h=>by
  let ?AL:=s;let#[h1,h2,h]:=h;have hsub:=sub_zip;have g1:?F5 (?G7 ?AL) a xs:=h1;have g2:?F5 (?G7 #[hp.push ?K9,g,d,tk,os]) b ys:=Heap.IsTuple.push h2 _
  wp_walk using qn4 g1,qn4 g2
  exact ?SF
section
variable[?fC][?bV][?e8]
def pQ{a b:Addr}{xs ys:?jY}[?bX](h1:?NH)(h2:?PA)
 (k:∀h',?cQ h' (?v7) (?v5) (?x5) ?aB->?b2 h' (?v5) (?eV) (?l (?t2)) →
   ?b2 h' (?x5) ?aB ?aB->?kL ?aC a 0->?kL (?t2) b 0->h'.objs.size=?TO →
   (∀c o,?O2)->Q (?l (?v7)) ?iE):?a3A ?Y (?f9 (?t3) ?yQ):=by
 apply callType_new F.called_zip ?T (F.typeCall_zip_2 _ _) (F.newCall_zip_2 _ _) (λobj=>F.args_object_init_3 obj _ _) F.entry_zip_new (qJ a b xs ys) #[h1,h2,?_];have z1:?MW=?t2:=qi2 ..;have z2:?LI=?v5:=by rw[qi2,z1]
 have z3:?HX=?x5:=by rw[qi2,z2]
 have z4:?xF=?v7:=by rw[qi2,z3]
 have z5:(?zE).objs.size=?TO:=by rw[qi2,z4]
 have q5:?mI ?xF=?mA:=?gR;have q4:?mI ?HX=?mA:=?I1;have q3:?mI ?LI=?mA:=?H8;have q2:?mI ?MW=?mA:=?T6;have q1:?mI ?aC=?mA:=?a4O (?T6);show _/\_;rw[z2,z3,z4]at q5;rw[z1,z2]at q3;rw[z3]at q4;rw[z1]at q2;rw[z4];exact#[#[_,q5,rfl],k _ q5 q3 q4 #[_,q1,rfl,rfl] #[_,q2,rfl,rfl] z5 λc o x=>?a4O (qa7 _ (qa7 _ (qa7 _ (qa7 _ x))))]
universe e9
def tup_cell{h:Heap}{j t:Addr}{n:Nat}(g:?lN j t n):∃o,?CC j=?M/\∀v,o.data≠.cell v:=by
 let#[o,q,_,d]:=g;exact#[o,q,λv z=>by rw[d]at z;cases z]
abbrev uJ[?c0](a b:Addr):It:=qC (SqT K) (?N5) a b
def nF[?b4][?aS][?o7][?ER](a b z TI TO i1 i2:Addr)(D:?NF z TI TO i1 i2 a b) :
 Xn P w K (?a5E es) ?pE ?SZ z (λi h=>?FD/\?X4/\?a57 i i) where
 mem:=qb3 ..
 obj:=λi h ?J8=>DI hz hTI hTO ?RT ?I7
 keep:=λi h h' ?J8 k=>by
  let#[k1,k2,k3,k4,k5]:=of5 k;exact#[k1 _ hz,k2 _ hTI,#[u,v,k3 _ hTO],h1.at λo q=>k4 o q,h2.at λo q=>k5 o q]
 item:=by
  ext fA;let ?HH:=st;let#[xs,ys,x,y,Yt,OQ,hx,hy]:=hg;ext a1Q;let ?sQ:=ra.get hx;let#[v,hv,rv]:=rb.get hy
  exact i4 D hz hTI hTO h1 h2 (?a6Q ?dC a) (?a6P ?dC b) (x:=u) (y:=v) (by simpa using hu) (by simpa using hv) λh' hz' TN HS h2' htup hsz hk =>
   FT (Y:=(uJ X.K a b).yld i H) (T:=λh=>?FD/\?X4/\?a57 ?i ?i) D I hf hz hTI hTO ?RT ?I7 ru rv hz' TN htup hk (λh3 S4 q1 q2 q3=>#[q1,q2,q3,HS.at λo e=>(S4.2 i1 D.i1z).trans e,h2'.at λo e=>(S4.2 i2 D.i2z).trans e]) λhn=>#[_,x,y,hn,rfl,rfl,λzs q=>by rw[?ZW q Yt];exact hx,λzs q=>by rw[?ZW q OQ];exact hy]
 done:=by
  ext fA;let ?HH:=st;let#[xs,ys,Yt,OQ,hx]:=hg;ext a1Q;have la:=ra.length;have lb:=rb.length;apply bA ?nA D hz hTI hTO h1 h2 (?a6Q ?dC a) (?a6P ?dC b) ?_ λh' hk=>#[rfl,?a4I ?SZ (λc o hc e=>?_)]
  . simp;omega
  . let#[n1,n2,n3,n4,n5]:=Ad4 hc;exact hk c o n1 n3 n4 n5 e
 self:=λ_ _ _ _ _ st h=>qv6 st.1 h
inductive UQ[?c0][?uS](vs:?bS)(H1:Hp):Prop
 | mk:∀a b,(vs=?yQ)->((∃xs,SqT K H1 a xs))->((∃ys,SqT K H1 b ys))->(R ?pE H1)->?MK
abbrev A21[?c0](ta:TA):TI:=?a71 ?MK
def KZ:?FB ?j6=?e (?t3):=?k1
def vZ{X:Cx}[?aS][?o7][?ER]{a b:Expr}{ta:TA}{p pos:Pos}(hg:Gl X ?j6)(hm:?hW ?j6=none)(ha:PA X ?rM ta)[?uO](hs:?eN ?rM ?y=[?XF,?oW]:=by rfl)(hs2:?eN [b] ?y=[?oW]:=by rfl) :
 PI X (?a5E es) (?a6C ?j6 ?rM) (A21 K ta):=by
 subst hK;intro Ae s σ H R I h;apply Call_ (M7 I hg hm KZ (qh1 (Dz (ha pos Ae s σ H _ I h) λus s1 #[vs,H1,I1,r1,q1]=>?_) (by rw[hs,hs2]) (by rw[hs2];rfl)));let#[la,lb,e,#[xs,Yt],#[ys,OQ],q]:=q1;subst e;cases r1 with
 | cons ra rr =>
   cases rr with
   | cons rb rr =>
     cases rr;cases ra;cases rb;let#[ia,_,pa,_]:=?a0C Yt;let#[ib,_,pb,_]:=?a0C OQ;have a1:la<s1.heap.objs.size:=by let ?ZQ:=pa;exact qc3 e
     have a2:lb<s1.heap.objs.size:=by let ?ZQ:=pb;exact qc3 e
     apply pQ (?a6Q ?ZI la) (?a6P ?ZI lb) λh' hz hTI hTO hi1 hi2 hsz hk=>?_;apply qv6 hz #[?FN,[?FN,?a4F 2,?a4F 3,s1.heap.objs.size,?ZU],_,_,H1,rfl,?a7W ?xK hk,nF la lb _ _ _ _ _ (zipApart_new a1 a2),#[hz,hTI,#[_,_,hTO],hi1,hi2],I1.fp5,q]
section
variable{g:TG}{tc:TT}[?u3]
def PN[?a0L]
 (hs:∀i x y zs τ H p,xs[i]?=?eP->?NK->?gF->?dI->g ?eW τ (?a4N p (?aR [x,y])) ?V8)
 [?E3]:?a52 ?pE tc:=cW (NE:=?N5) O9m O9m O9m Pv h0 hl hs hd
universe e9
section
variable{κ:Type}[?IJ κ]
abbrev P5[?nV]:?i9:=(kvs.find? ?vD).map (·.2)
abbrev O7[?nV](v:V):?iD :=
 if ?tH=true then ?e1 (?a3T (?aQ,v)) else kvs++[?eC]
abbrev X4[?nV]:?iD:=kvs.filter λkv=>?a7 (?aQ≠k)
def Zf[?a31](e:?bE):?L6=?jS:=?SP
def Zg[?a31](e:¬?bE):?L6=P5 r k:=?SP
def fW(k:κ):∀kvs:?iD,?tH=?IK
 | []=>rfl
 | p::r=>by
   rw[qn2];ext k8
   . simp only[Zf e,qf2 e,Bool.true_or,Option.isSome_some]
   . rw[Zg e,qj8 e,Bool.false_or];exact fW k r
def Q5[?nV](v:V):?JW<=kvs.length+1:=by
 unfold O7;split
 . rw[qa4];omega
 . rw[qc6,qd6,qm7];omega
def Oi.isSome_eq[?oC]{u:?n1}(r:Oi o u):o.isSome=u.isSome:=by
 cases o with
 | none=>cases u with
   | none=>rfl
   | some _=>ext uA
 | some _=>cases u with
   | none=>ext uA
   | some _=>rfl
def Oi.getD[?oC]{u:?n1}{d:V}{d':Value}(r:Oi o u)(rd:?b0 d d'):?b0 (o.getD d) (u.getD d'):=by
 cases o with
 | none=>cases u with
   | none=>exact rd
   | some _=>ext uA
 | some _=>cases u with
   | none=>ext uA
   | some _=>exact r
def KV.val[?hH](k:κ):Oi (?eH) (?pS):=by
 unfold KV at r
 induction r with
 | nil=>ext k9
 | @cons p q ps qs h t ih =>
   let ?eE:=h;ext k8
   . have e':q.1=k:=?tD;have b:?EZ=?e q.2:=?PT
     rw[Zf e,b];exact h2
   . ext DU;have b:?EZ=?vC qs k:=?PT
     rw[Zg e,b];exact ih
def KV.any[?hH](k:κ):?tH=?ZP:=by
 unfold KV at r
 induction r with
 | nil=>rfl
 | cons h t ih=>rw[qn2,qn2,ih,h.1]
def KV.repl[?hH](k:κ)[?o9][?hQ] :
 KV (?e1 (?a3T (?aQ,y))) (vs.map (?a3T (?aQ,u))):=by
 unfold KV at r ⊢
 induction r with
 | nil=>exact ?a8
 | @cons p q ps qs h t ih =>
   rw[qc8,qc8];apply ?V0;let ?eE:=h;ext k8
   . rw[?bK,?U3];exact#[h1,ry]
   . rw[?bN,?JG];exact ?eE
def KV.put[?hH](k:κ)[?o9][?hQ]:KV (O7 kvs k y) (?D0 vs k u):=by
 unfold O7 stored;rw[r.any k];by_cases e:(?ZP)=true
 . rw[?bK,?bK];exact ?KF
 . rw[?bN,?bN];exact ?YP r #[rfl,ry]
def KV.drop[?hH](k:κ):KV (?qZ) (without vs k):=by
 unfold KV at r ⊢;unfold X4 without
 induction r with
 | nil=>exact ?a8
 | @cons p q ps qs h t ih =>
   let ?eE:=h;rw[qm2,qm2];ext k8
   . have a:¬?OL:=?FJ
     have b:¬?UY:=by simp[?tD]
     rw[?g a,?g b];exact ih
   . ext DU;have a:?OL:=?FJ
     have b:?UY:=by simp[e']
     rw[?o a,?o b];exact ?cH ?eE ih
def KV.keys[?hH]:?e1 (·.1)=vs.map (·.1):=by
 unfold KV at r
 induction r with
 | nil=>rfl
 | cons h t ih=>rw[qc8,qc8,ih,h.1]
def KV.length[?hH]:kvs.length=vs.length:=?UH r
def iA[?nV]:(?qZ).length<=kvs.length:=qi0 _ _
universe e9
def kV_is[?b4]{k:Key}{u:Value}(r:?BY):?a0B:=by
 cases k with
 | inl i=>let#[t,e]:=(show ?YD from r);subst e;exact HD P w i t
 | inr x=>let#[t,e]:=(show ?ZC from r);subst e;exact HC P w x t
def CI[?b4]:∀{ks:?fW}{us:?rV},Vals (ks.map kV) us->ItemsAre ?fJ ks us
 | [],_,r=>by rw[qq1]at r;cases r;exact ?a8
 | k::ks,_,r=>by
   rw[qc8]at r;cases r with
   | cons h t=>exact ?cH (?sC h) (CI t)
noncomputable abbrev KT(H:Hp):?lM->?a85 ?z1:=Paired λp q=>p.1=q.1/\H q.2.1=?e (?aR (p.1.map kV))/\?b0 p.2 q.2.2
def KT.val{H:Hp}[?tZ](k:?fW):Oi (?eH) (?RZ (·.2)):=by
 induction r with
 | nil=>ext k9
 | @cons p q ps qs h t ih =>
   let#[h1,_,h2]:=h;ext k8
   . have e':q.1=k:=?tD;have b:?FS=?e q.2:=?L2
     rw[Zf e,b];exact h2
   . ext DU;have b:?FS=atKey qs k:=?L2
     rw[Zg e,b];exact ih
def KT.repl{H:Hp}[?tZ](k:?fW)[?o9][?hQ] :
 KT H (?e1 (?a3T (?aQ,y))) (xs.map (putAt k u)):=by
 induction r with
 | nil=>exact ?a8
 | @cons p q ps qs h t ih =>
   rw[qc8,qc8];apply ?V0;let ?O3:=h;unfold putAt;ext k8
   . rw[?bK,?U3];exact#[h1,h2,ry]
   . rw[?bN,?JG];exact ?O3
def KT.put{H:Hp}[?tZ](k:?fW){b:Addr}[?o9](hb:?BB)[?hQ] :
 KT H (O7 kvs k y) (storedH xs k b u):=by
 have e:?tH=?NV:=by
  rw[fW,(r.val k).isSome_eq,Option.isSome_map]
 unfold O7 storedH;rw[e];by_cases q:?NV=true
 . rw[?o q,?o q];exact ?KF
 . rw[?g q,?g q];exact ?YP r #[rfl,hb,ry]
def KT.keeps{H H':Hp}[?tZ](ht:∀b ys,H b=?e (?aR ys)->H' b=?e (?aR ys)):KT H' kvs xs :=
 Paired.mapP r λ_ _ z=>#[z.1,ht _ _ z.2.1,z.2.2]
section
variable[?b4]{H:Hp}{h:Heap}{a:Addr}
def YI{u:HO}[?kB](e:Rd H a u):?a5W u:=e.ok ok
def S6[?bI][?kB][?uL]:?QH :=
 show ?a5W ?cE from YI ok e
def IA[?bI][?kB][?k6]:?QH:=S6 ok (?J e)
def EM{ks:?fW}[?kB](e:H a=?e (?aR (ks.map kV))):?TX h ks a:=by
 let#[_,its,r,o,h1,h2,_,n,h3]:=(show ?a5W (?aR (ks.map kV)) from ok a _ e)
 exact#[o,?tK,n,h1,h2,h3,by simpa using CI r]
def HZ{kvs:?lM}[?kB](e:?AF):?l1/\?gQ ∧
 ?MD:=by
 let#[z,y,xs,r,o,es,ep,h1,h2,h3,h4,h5]:=(show ?a5W (.dT kvs) from YI ok e)
 apply#[z,y,xs,r,o,es,ep,h1,h2,h3,h4,?pF,h5]
 have all:∀{l:?lM}{m:?z1},KT H l m->∀x∈m,?TX h x.1 ?iB:=by
  intro l m q
  induction q with
  | nil=>intro x hx;exact nomatch hx
  | @cons p q ps qs hq t ih =>
    intro x hx;rcases qd9.mp hx with e | hx
    . subst e;exact EM ok (by rw[←hq.1];exact hq.2.1)
    . exact ih x hx
 exact all r x hx
def A76{kvs:?lM}[?kB](e:H a=?e (.dT kvs)):?l1/\?gQ ∧
 ?MD:=HZ ok (?J e)
universe e9
abbrev DGet(H:Hp)(a:Addr)(y:V)(r:?i9):Prop :=
 (∃kvs k,?kH/\y=?dH/\r=?eH)\/∃kvs k b,?AF/\y=?aM/\?BB/\r=?eH
abbrev An0(H:Hp)(a:Addr)(y v:V)(H':Hp):Prop :=
 (∃kvs k,?mY/\y=?dH/\?XA/\H'=?a4N a (.dK (?zZ))) ∨
 ∃kvs k b,H a=?e (.dT kvs)/\y=?aM/\?BB/\?XA/\H'=?a4N a (.dT (?zZ))
section
variable[?d5]{y v:V}{u r:Value}[?oC][?bV]
def Bn.big[?V]:?a4X sysModules:=by
 have h:?a4X mainGlobals:=(I.mod.glob.keeps I.bk).lt;exact qv1 ?T h
def PK[?bX][?EM][?V](g:DGet H a y (?dW))[?hQ](h:∀w' s',?s3->?UB) :
 ?a3A ?dQ (?wP ?cU u):=by
 ext a1T
 . subst ey;ext u5;let ?AE:=?vX (v:=v) (o:=?pS) (by rw[l];exact ?gV);exact wpAny_getItem_of ?iU ?QN hw (?FR)
 . ext a14;let ?AE:=?vX (v:=v) (o:=?RZ (·.2)) (by rw[l];exact ?gV);let#[p,hp,hp2]:=qi3.mp hw;apply wpAny_getItem_heap (?a5P hu) (?BH) dd hp ?_;rw[hp2];exact ?FR
def Vp{h':Heap}{t':Nat}{ob:HO}[?V](mu:Mut (H a))(hs:?DF a ?X h')(he:?L3)(new:?h1 ?gS X.w (?a4N a ob) h' a ob) :
 Bn X Ae σ (?a4N a ob) { s with heap:=h',toks:=t' } :=
 I.write (x:=a) (e:=a) mu (?J rfl) (λb q hb z=>(hs.2 b hb).trans z) he new
def Xd[?b4]{H':Hp}{h':Heap}[?bI][?uI](z:?l1)(hd:?gQ)(rel:?i3)(dd:?IQ ?fJ a vs) :
 ?h1 P w H' h' a ?cE:=?DC
def pH{H':Hp}[?EI][?EM][?V](g:An0 H a y v H')[?hQ](rv:?b0 v r)(h:∀s',?ZZ->Q () s') :
 ?a3A ?dQ (setItem ?cU u r):=by
 rcases g with⟨kvs,k,e,ey,l,eH⟩|⟨kvs,k,b,e,ey,eb,l,eH⟩
 . subst ey eH;ext u4;have hz:?a58 vs.length:=?oJ
   ext a1C
   apply wpAny_setItem_pairs (hsz:=hz) ?iU dd ?zL;ext DK
   exact Vp I ?oL hs he (Xd hl hd (rel.put k rv) KL)
 . subst ey eH;cases (show u=?dT b from ry);let ?UN:=A76 ?cG e;have hz:?a58 xs.length:=by rw[←?UH rel];exact z
   ext a1C
   apply wpAny_setItem_heap (hsz:=hz) (?a5P hu) (?BH) dd ?zL;let#[q,es,ep,hq,h2,h3,h4,_,h5]:=KL;apply Vp I ?oL hs #[q,hq] #[hl,hd,_,(rel.put k eb rv).keeps λc ys ec=>?_,q,es,ep,hq,h2,h3,h4,h5];rw[Al (Fo ec e (λz=>nomatch z))];exact ec
universe e9
section
variable[?d5][?bI]{k:Key}{u:Value}[?bV]
def A77{v:V}{more:?rV}[?bX][?V][?k6][?EQ](l:?eH=?dW)(hm:more=[]\/∃x,more=[x])
 (h:∀w' s',?HO->?UB):?a3A ?dQ (?f9 ?SK (?IS)):=by
 ext u4;let ?AE:=?vX (v:=v) (o:=?pS) (by rw[←l];exact ?gV)
 have hp:?TG:=by
  cases k with
  | inl i=>ext a1N
  | inr x=>ext a1O
 have ha:argsOk ?T5 #[?IS,[]]:=by
  rcases hm with q|⟨x,q⟩
  . subst q;exact PySem.F.args_dict_pop_2 _ _
  . subst q;exact ?N1
 apply ?jN qu8 ?g2 ?G0 ha (meets_dict_pop_there ?dZ a ?iU more hm hp)
  #[vs,w',dd,?oJ,hw,λh' KL hs=>h w' _ ?_ rw']
 ext DK
 ext a0W
def Ak5{r:Value}[?bX][?V][?k6][?EQ](l:?O9)(h:∀s',?s3->Q r s') :
 ?a3A ?dQ (?f9 ?SK ?WX):=by
 ext u4;have hn:?pS=none:=Oi.none_of (by rw[←l];exact ?gV)
 have hp:?TG:=by
  cases k with
  | inl i=>ext a1N
  | inr x=>ext a1O
 exact ?jN qu8 ?g2 ?G0 (?N1) (meets_dict_pop_default ?dZ a ?iU hd hp r) #[vs,dd,hn,h _ ?mG]
def A78[?bX][?V][?uL](h:∀t s',?s3->Q (?m ?i1 t) s'):?a3A ?dQ (?f9 (?cV "len") ?jF):=by
 ext u5;apply call_len_dict hd dd (by rw[←rel.length];rw[sizeLine_eq]at z;omega) ?_;rw[←rel.length];exact h _ _ ?mG
universe e9
abbrev NoSl(i:Expr):Prop:=∀ov iv,?IW i ?c5 ov iv=operate [ov,iv] (?wP ov iv)
def vK[?fC][?bV][?e8]{env:Env}{value slice:Expr}{pos:Pos}{T id:String}[?bX]
 (hl:?WL (?aI T) "__getitem__"=pure (?e (?cV id))) (hs:NoSl ?pU)
 (h:?p ?Y A (?b7 ?eM env) (λo s₁=>?p ?Y A (?b7 ?pU env) (λi s₂=>s₂.TypeIs o T/\?p ?Y A (?wP o i) Q E s₂) E s₁) E s) :
 ?a3A ?Y (?b7 (?CL ?eM ?pU pos) env):=by
 apply Subscript_ (ql1 h (λo s₁ h₁=>ql1 h₁ (λi s₂ h₂=>?_) ?A4) ?A4);let#[hT,h₂]:=h₂;unfold subscriptTail;apply ?j8;rw[getitemInPython_of_ne hT.not_modules];apply qa6 (wpAny_specialOf hT hl ?_)
 have fin:?p ?Y A (?IW ?pU ?c5 o i) (λr s₃=>?p ?Y A (letTemporaryGo ?eM o r>>=λ_=>pure r) Q E s₃) E s₂:=by
  rw[hs o i];exact wpAny_operating (ql1 h₂ (λr s₃ h₃=>?a4P wpAny_letTemporaryGo (qb9 h₃)) ?A4)
 first
  | exact qb9 (qa6 fin)
  | exact ?a4P qb9 (qa6 fin)
  | exact qa6 fin
def iB[?d5]{y:V}[?oC][?V](g:?FY):?yK:=by
 rcases g with⟨kvs,k,e,_,_⟩|⟨kvs,k,b,e,_,_,_⟩
 . let#[_,_,vs,_,dd]:=?jE;exact dd.typeIs
 . let#[_,_,xs,_,dd]:=?wF;exact dd.typeIs
inductive UL(Q:VK)(x:V)(y:V)(H2:Hp):Prop
 | mk:∀a v,?sM->(DGet H2 a y (?dW))->(Q v H2)->?Y9
abbrev Au4(td ty:TE):TE:=λσ H Q=>td σ H λx H1=>ty σ H1 λy H2=>?Y9
inductive UM(D:Ends)(σ:St)(v:V)(x:V)(y:V)(H3:Hp):Prop
 | mk:∀a H4,?sM->(An0 H3 a y v H4)->(D.nx σ H4)->?VY
abbrev Av4(td ty tv:TE):TS:=λD σ H=>tv σ H λv H1=>td σ H1 λx H2=>ty σ H2 λy H3=>?VY
section
variable{X:Cx}{o i e value:Expr}{pos pos' tpos:Pos}{td ty tv:TE}
def Rx[?DX](hi:?OB)(hs:NoSl i):PE X (?CL o i pos) (Au4 td ty):=by
 ext uJ;apply vK PySem.F.slot_dict_getitem.lookup hs (Dz (?a7P ho) λu s1 ?PL=>Dz (?a3P hi) λiv s2 _z=>?_);let#[y,H2,I2,ry,a,v,ex,g,q2]:=_z;subst ex;obtain rfl:u=?dT a:=rx;exact#[iB I2 g,PK hu I2 g ry λw' s3 I3 rw'=>#[v,H2,I3,rw',q2]]
def Rw[?DX](hi:?OB)(hv:?K4)(hs:?a6F ?MT) :
 PS X (.Assign [?MT] ?eM pos) (Av4 td ty tv):=by
 intro Ae s σ H D I h;apply wpAny_Assign_Subscript (Dz (?a7P hv) λr s1 #[v,H1,I1,rv,q1]=>Dz (?a3P ho) λu s2 #[x,H2,I2,rx,q2]=>Dz (hi Ae s2 σ H2 _ I2 q2) λiv s3 _z=>?_) hs;let#[y,H3,I3,ry,a,H4,ex,g,q3]:=_z;subst ex;obtain rfl:u=?dT a:=rx;exact pH hu I3 g ry rv λs4 I4=>#[σ,H4,I4,q3]
universe e9
def dk_empty[?b4]{H:Hp}(h:Heap)(hb:sysModules<h.objs.size):?h1 P w H (h.push ?YG) ?YN (?hV) :=
 #[?aE,?a5G hb,[],?a8,?a06 h]
abbrev Aa4:TE:=λ_ H Q=>?a81 (?hV)
section
variable[?uW]
def G9:PE X (.Dict [] [] pos) Aa4:=λAe s σ H Q I h =>
 wpAny_Dict_empty #[?eV,_,?tR (a:=s.heap.objs.size) (o:=?hV) (t':=s.toks) (λ_ _ q=>?a4O q) ?h (dk_empty ?X I.big),rfl,h _ (?n9 ?h)]
universe e9
abbrev tPairs:?m8->St->Hp->?a85 (?ZX)
 | [],_,H,Q=>Q [] H
 | (tk,tv)::r,σ,H,Q=>tk σ H λx H1=>tv σ H1 λy H2=>?A9 r σ H2 λps H3=>Q (?NG) H3
noncomputable abbrev VV:?a4J V V->?a4J Value Value->Prop:=Paired λp q=>?b0 p.1 q.1/\?b0 p.2 q.2
abbrev PPs(X:Cx)(pos:Pos)(keys:?x4)(values:?f2)(vF:?m8):Prop :=
 ∀(Ae:Bm) (s:Shared) (σ:St) (H:Hp) (Q:?ZX),?R1->?A9 vF σ H Q →
   ?p ?dQ X.A (evalPairs (pairTrees keys ?BC ?y pos)) (λvs s'=>∃ps H',?ZZ/\VV ps vs/\Q ps H') X.xe s
def vW[?uW]:PPs X pos [] [] []:=λAe s σ H Q I h=>pairTrees_nil_walk #[[],H,I,?a8,h]
def RD[?uW]{k v:Expr}{ks:?x4}{vs:?f2}{tk tv:TE}{vF:?m8}(hk:PE X k tk)(hv:PE X v tv)(hr:PPs X pos ks vs vF) :
 PPs X pos (?e k::ks) (v::vs) ((tk,tv)::vF):=λAe s σ H Q I h =>
 pairTrees_cons_walk (Dz (?a7P hk) λu s1 ?PL=>Dz (?a3P hv) λw2 s2 ?wY =>
  Dz (hr Ae s2 σ H2 _ I2 q2) λws s3 #[ps,H3,I3,rel,q3]=>#[?NG,H3,I3,?cH #[rx,ry] rel,q3])
abbrev Jk(kvs more:?c7):?c7:=more.foldl (λacc kv=>O7 acc ?aQ kv.2) kvs
def KV.merge:∀{more:?c7}{rs:?p5}[?bI][?uI],KV more rs->?i3->KV (?z9) (merged vs rs):=by
 intro more rs kvs vs r;unfold KV at r
 induction r generalizing kvs vs with
 | nil=>intro q;exact q
 | @cons p q ps qs h t ih =>
   intro r0
   have e:KV ?sZ (?D0 vs q.1 q.2):=by
    have:=r0.put p.1 h.2;rw[←h.1];ext a3
   exact ih e
def M6:∀(more kvs:?c7),(?z9).length<=kvs.length+more.length
 | [],kvs=>by show kvs.length<=kvs.length+0;omega
 | p::r,kvs=>by
   have h1:=M6 r ?sZ;have h2:=Q5 kvs p.1 p.2;show(Jk ?sZ r).length<=_;rw[qd6];omega
def AD[?b4]:∀[?bI]{ws:?a4J Value Value},VV (?e1 ?OQ) ws->∃rs,Carries ?fJ ws rs/\KV kvs rs
 | [],_,r=>by rw[qq1]at r;cases r;exact#[[],True.intro,?a8]
 | p::kvs,_,r=>by
   rw[qc8]at r;cases r with
   | @cons a b as bs h t =>
     let#[rs,c,q]:=AD (P:=P) (w:=w) t;let ?IU:=b;exact#[(p.1,b2)::rs,#[?sC h.1,rfl,c],?cH #[rfl,h.2] q]
abbrev Au3(vF:?m8):TE:=λσ H Q=>∀p,?dI->?A9 vF σ (?a4N p (?hV)) λps H2=>H2 p=?e (?hV)/\∃kvs:?c7,ps=?e1 (?OQ)/\kvs.length<=15/\Q ?eW (upd H2 p (.dK (?lW)))
def wD[?uW]{keys:?x4}{values:?f2}{vF:?m8}(h:PPs X pos keys ?BC vF)(hall:keys.all (·.isSome)=true)(hl:keys.length=values.length)(h0:keys≠[])
 (h15:keys.length<=15):PE X (.Dict keys ?BC pos) (Au3 vF):=by
 intro Ae s σ H Q I q;have hn:=?n9 (qa2 ?aC);have I1:=?tR (a:=s.heap.objs.size) (o:=?hV) (h':=?oY) (t':=s.toks) (λ_ _ q=>?a4O q) ?h (dk_empty ?X I.big);apply wpAny_Dict_walk (knd:=?BS) hall hl h0 h15 (Dz (h Ae _ σ _ _ I1 (q _ hn)) λws s2 _z=>?_);let#[ps,H2,I2,rel,e,kvs,ep,lk,q2]:=_z;subst ep;let#[rs,c,rk]:=AD (P:=X.prog) (w:=X.w) rel;let#[z,hd,vs0,r0,dd]:=IA I2.hok e;cases r0;apply#[rs,c,dd,λh' KL hs=>#[?eV,_,?_,rfl,q2]]
 have hz:?QG:=by
  have h1:=?WJ;rw[qm7]at h1;rw[sizeLine_eq];omega
 have he:∃q,?m1 ?aC=?e q:=?L8
 exact Vp I2 ?oL hs he (Xd hz hd (rk.merge ?a8) KL)
structure M2(X:Cx)(o:Expr)(m:Str)(apos:Pos)(e f:Expr)(cpos:Pos):Prop where
 base:?yC o m ?y (?sG)=?sG
 few:((?T2).all (λx=>!x.1)&&(?zO ?fL (keywordEach [] ?y)).all (λx=>x.1.isSome)
  && ?a7 ((?qW:?f2).length+([]:?KH).length+(if ([]:?KH).isEmpty then 0 else 1)<30))=true
 line:?TM
 trees:?T2=[?vL,(?c5,?a7X f)]
abbrev IsD(H:Hp)(a:Addr):Prop:=(∃kvs,?kH)\/∃kvs,?AF
def tF[?d5][?V](d:IsD H a) :
 ?yK/\(∀b,?dT a=?aM->∃ob,?WD/\ob.dict=none)/\?gQ:=by
 rcases d with⟨kvs,e⟩|⟨kvs,e⟩
 . let#[_,hd,vs,_,dd]:=?jE;ext a0X
 . let#[_,hd,xs,_,dd]:=?wF;ext a0X
section
variable[?d5]{y d:V}{u r:Value}[?oC][?bV]
def Ak8[?bX][?EM][?V](g:?FY)[?hQ](rd:?b0 d r)(h:∀w' s',?s3->?b0 (o.getD d) w'->Q w' s') :
 ?a3A ?dQ (?f9 (?cV "dict.get") ?WX):=by
 ext a1T
 . subst ey;ext u5;apply ?jN qu9 ?g2 ?Z4 (?a6T _) (meets_dict_get_default ?dZ a ?iU hd r) #[_,?QN,?R7];rw[l];exact(?gV).getD rd
 . ext a14;apply ?jN qu9 ?g2 ?Z4 (?a6T _) (meetsH_dict_get_default (?vU ?dZ) a b hd r) #[?a5P hu,k,xs,?BH,dd,?R7];rw[l];exact(?gV).getD rd
universe e9
inductive ItDGet2(ty:TE)(tx:TE)(σ:St)(Q:VK)(x:V)(H1:Hp):Prop
 | mk:∀a,?sM->(?RF)->(ty σ H1 λy H2=>tx σ H2 λz H3=>∃o,DGet H3 a y o/\Q (o.getD z) H3)->?EW
abbrev Aa5(td ty tx:TE):TE:=λσ H Q=>?a6O ?EW
abbrev Aa3(td ty tx:TE):TE:=λσ H Q=>td σ H λx H1=>∃a,x=?aW/\?RF/\ty σ H1 λy H2=>tx σ H2 λz H3=>∃kvs k,H3 a=?e ?cE/\y=?dH ∧
 (∀v,?eH=?dW->Q v (upd H3 a (.dK (?qZ))))/\(?O9->Q z H3)
section
variable{X:Cx}{o e f:Expr}{apos cpos:Pos}{td ty tx:TE}
def Qu[?DX](he:?J5)(hf:?GV)(m:M2 X o "get" ?cJ e f ?fL):?a4V "get" Aa5:=by
 ext uJ;apply ?a3R qu9 PySem.F.type_dict_get;ext a0O
 apply qr0 rfl (qx7 (qq3 (Dz (?a3P he) λiv s2 ?wY =>
  ?a3S #[z,H3,I3,rz,ov,g,q3])))
 exact Ak8 hu I3 g ry rz λw' s4 I4 rw'=>#[_,H3,I4,rw',q3]
def rK(ho:?QT)(he:?J5)(hf:?GV)(m:M2 X o "pop" ?cJ e f ?fL):?a4V "pop" Aa3:=by
 ext uJ;apply ?a3R qu8 PySem.F.type_dict_pop;ext a0O
 apply qr0 rfl (qx7 (qq3 (Dz (?a3P he) λiv s2 ?wY =>
  ?a3S #[z,H3,I3,rz,kvs,k,ea,ey,q3,q4])))
 subst ey;cases l:P5 kvs k with
 | some v=>exact A77 I3 ea ry l (?Z #[fv,rfl]) λw' s4 I4 rw'=>#[v,_,I4,rw',q3 v l]
 | none=>exact Ak5 I3 ea ry l λs4 I4=>#[z,H3,I4,rz,q4 l]
universe e9
section
variable[?d5][?bI][?bV]
def tY[?bX][?V][?uL](h:∀p s',?dI->?a3W (upd H p ?cE) s'->Q ?eW s'):?a3A ?dQ (?f9 ?q4 ?jF):=by
 ext u5;apply kt_call_dict hd dd (?oJ) λh' KL hs=>?_;apply h _ _ (?n9 ?h) (?tR (a:=s.heap.objs.size) (o:=?tC) (t':=s.toks) (λb q hq=>?_) ?h (Xd z (?a5G I.big) rel KL));exact(hs.2 b (?a6R hq)).trans (?a4O hq)
universe e9
section
variable[?d5][?o9][?bV]
universe e9
section
variable{X:Cx}
def pS:Fm X (?cV "len") (λxs H Q=>∃a kvs,xs=[?mD a]/\?mY/\Q (?m ?i1) H):=by
 ext uB;let#[a,kvs,rfl,ha,q]:=h;let ?IB:=Ul r;cases ru;exact A78 I (?J ha) λt s' I'=>#[?m ?i1,H,I',?iP,q]
universe e9
universe L2
namespace L2
open PySem PySem.Spec PyProof.Rows PySem.SeqAt
abbrev cK[?bH]:?c7:=?iS λp=>(?pW,?a4 p.2)
abbrev lookI[?bH](k:Int):?pB Int:=(ms.find? ?hD).map (·.2)
inductive P4:?x ?q1->?a85 ?dM
 | nil:P4 [] []
 | cons {e:DictEntry}{k v:Int}[?o0][?cK]{t t':Tok}:?RW->?M3->?VB->?mK->P4 ?f7 (?eC::ms)
def P4.length[?o0][?cK](h:?mK):es.length=ms.length:=by
 induction h with
 | nil=>rfl
 | cons _ _ _ _ ih=>simp[ih]
def P4.get[?o0][?cK](h:?mK):∀{i:Nat}{e:DictEntry},?a7Z es e->∃k v t t',ms[i]?=?yB/\?RW/\?M3/\?VB:=by
 induction h with
 | nil=>intro i e q;simp at q
 | @cons e0 k v es ms t t' h1 h2 h3 _ ih =>
   intro i e q;cases i with
   | zero =>
     have:e0=e:=?fO
     subst this;exact#[k,v,t,t',?cF,h1,h2,h3]
   | succ i =>
     let#[k',v',t1,t2,q1,q2]:=ih (i:=i) (e:=e) (?fO);exact#[k',v',t1,t2,?Y1,q2]
def P4.find[?o0][?cK](h:?mK)(k:Int):es.findIdx? (λe=>?g5 k e.key)=?TJ ?hD:=by
 induction h with
 | nil=>rfl
 | @cons e0 k0 v es ms t t' h1 h2 h3 _ ih =>
   rw[qw8,qw8,h1,ih]
   have e:?g5 k (?m k0 t)=?a7 (k0=k):=by
    by_cases q:k0=k
    . subst q;ext o2
    . simp[Value.isInt,q];try exact ?XK
   rw[e]
structure Oj(h:Heap)(a:Addr)[?bH]:Prop where
 ex:∃o es ep,?CC a=?M/\o.ExactDict/\?yR/\?WN
 sys:?gQ
 nd:(?iS (·.1)).Nodup
def Oj.typeIs[?e8]{a:Addr}[?cK](x:?tG):?yK:=let #[o,_,_,ho,hc,_]:=x.ex;#[o,ho,hc.1]
def JW[?cK]{k:Int}(h:?HC=none):?gY=none:=by
 unfold lookI;rw[List.findIdx?_eq_none_iff]at h;rw[List.find?_eq_none.mpr (λp hp=>by have:=h p hp;simpa using this)];rfl
def jW[?cK]{k:Int}{j:Nat}(h:?HC=?e j):∃v,ms[j]?=?yB/\?gY=?dW:=by
 induction ms generalizing j with
 | nil=>simp at h
 | cons p ms ih =>
   rw[qw8]at h;by_cases q:?bE
   . rw[qf2 q,?s]at h;cases h;apply#[p.2,by simp[←q],?_];unfold lookI;rw[List.find?_cons_of_pos (?fO)];rfl
   . rw[qj8 q,if_neg (by decide)]at h;cases h2:ms.findIdx? (λp=>decide (p.1=k)) with
     | none=>rw[h2]at h;cases h
     | some j' =>
       rw[h2]at h;have e:j=j'+1:=by simpa using h.symm
       subst e;let#[v,h3,h4]:=ih h2;apply#[v,by simpa using h3,?_];unfold lookI at h4 ⊢;rw[List.find?_cons_of_neg (?fO)];exact h4
def XS(fs:?CM)(p:?q1->Bool):?xT p=fs.toList.findIdx? p:=by
 cases fs;simp
def A20[?fC][?bV][?e8]{x y:Int}{t u:Tok}{Q:?W4}(h:Q (?a7 (x=y)) s):?a3A ?Y (eqBool ?GA ?O4) :=
 (?t0).eqBool (by show ?g5 x ?GA=true;ext o2) (by show ?g5 y ?O4=true;ext o2) h
def Ag0[?fC]{es:?CM}[?cK](h:?WN):KeysOf (?t0) es:=by
 intro e he;let ?CP:=Array.mem_iff_getElem.mp he;let#[k,v,t,t',_,h1,h2,_]:=h.get (i:=i) (e:=es[i]) (by simp[hi]);exact#[k,by show ?g5 k _=true;rw[h1];ext o2,h2]
def Uz[?fC][?bV][?e8]{id:String}[?a30]{Q:?W4}[?a2S]
 (h:Q ?r3 s):?a3A ?Y (?GF id a b):=by
 let#[oa,es,ep,hoa,_,hda,hea]:=ha.ex;let#[ob,fs,VA,hob,_,hdb,heb]:=hb.ex;have la:es.size=ms.length:=by rw[←hea.length];simp
 have lb:fs.size=ns.length:=by rw[←heb.length];simp
 unfold Builtin.Dict.samePairs
 have sh:∀{c:Addr}[?EI],(c==sysModules)=false->Q () s->?a3A ?Y (Builtin.Dict.showsAll c):=λ{c Q} hc hq=>by
  unfold Builtin.Dict.showsAll;rw[?g (by rw[hc];exact qe3)];exact qb9 hq
 apply qa6 (sh ha.sys (qa6 (sh hb.sys ?_)));apply ?a68 qu7 (qa6 (qu7 hob hdb ?_));by_cases hl:ms.length=ns.length
 . rw[?g (by simp[la,lb,hl])];have e0:(?yX)=true:=?a01
   rw[e0,Bool.true_and]at h;apply ?a68 wpAny_dictEpoch ?_;rw[Std.Legacy.Range.forIn_eq_forIn_range']
   apply qa6 (ql1 (wpAny_forIn_list _ (λrest r s'=>s'=s/\r=(none,())/\∃i,rest=?xD i (?RM) 1/\i<=ms.length/\∀p∈ms.take i,?bF ns p.1=?jS)
    (λr s'=>s'=s/\((r=(none,())/\(?a3Z ns)=true)\/(r=(?e ?c5,())/\(?a3Z ns)=false))) ?_ ?_ _ _ #[rfl,rfl,0,?_,?aE,?cF]) (λr s' hr=>?_) ?SW)
   . rintro i rest r s' ⟨rfl,rfl,i1,hr,hi,hd⟩
     have hlt:i1<ms.length:=by
      ext hL;rw[?a3L ?PN 0]at hr;cases hr
     rw[?a7C ?PN (i1+1),List.range'_succ]at hr;cases hr;have hie:i<es.size:=O9m
     let#[k,v,t,t',hm,h1,h2,h3]:=hea.get (i:=i) (e:=es[i]) (by simp[hie])
     have hmi:ms[i]=?eC:=by
      rw[qa0 hlt]at hm;exact qa8 hm
     apply ?a68 qu7 ?_;rw[?MF hie];dsimp only;apply qa6 (ql1 (Q:=λsame s''=>s''=s'/\same=?a7 (?BA=?dW)) (qo0 ?_) (λsame s'' hs=>?_) ?SW)
     . rw[h1,h2];apply qa6 (wpAny_dictFind_of (knd:=?t0) (k:=k) (show ?g5 k (?m k t)=true from by ext o2) hob hdb (Ag0 heb) ?_)
       have ef:(?xT λe=>(?t0).is k e.key)=ns.findIdx? ?hD:=by
        rw[←heb.find k];show ?xT (λe=>?g5 k e.key)=_;exact XS _ _
       rw[ef];cases hf:ns.findIdx? (λp=>decide (p.1=k)) with
       | none =>
         dsimp only;apply qb9 ?CE;rw[JW hf];rfl
       | some j =>
         let#[v',hj,hl2]:=jW hf;have hjn:j<ns.length:=(?gT hj).1;have hjf:j<fs.size:=O9m
         let#[k2,v2,t2,t2',hm2,g1,g2,g3]:=heb.get (i:=j) (e:=fs[j]) (by simp[hjf]);rw[hj]at hm2;cases hm2;dsimp only;apply qa6 (qu7 hob hdb ?_);rw[?MF hjf];dsimp only;apply qo0 ?_;rw[h3,g3];apply A20 ?CE;rw[hl2];by_cases q:v=v'
         . subst q;simp
         . have q':¬v'=v:=?XK;simp[q,q']
     . let#[rfl,hs]:=hs;by_cases q:?BA=?dW
       . rw[qf2 q]at hs;subst hs;rw[?vG];apply ?a68 wpAny_dictEpoch ?_;rw[?g ?bG];apply qb9 #[rfl,rfl,i+1,rfl,hlt,?G1];rw[qe7,qa0 hlt,hmi]at hp;rcases ql0.mp hp with hp | hp
         . exact hd p hp
         . have:p=?eC:=by simpa using hp
           subst this;exact q
       . rw[qj8 q]at hs;subst hs;rw[?vT];apply qb9 #[rfl,?Z ?CE];rw[List.all_eq_false];exact#[?eC,by rw[←hmi];exact qe4 hlt,?fO]
   . rintro r s' ⟨rfl,rfl,i,hr,hi,hd⟩
     have e1:i=ms.length:=by
      apply qi8 hi ?eQ;rw[?a7C ?RM ?i,List.range'_succ]at hr;cases hr
     subst e1;rw[qd2]at hd;exact#[rfl,?J #[rfl,qd3.mpr λp hp=>qf2 (hd p hp)]]
   . simp[Std.Legacy.Range.size,la]
   . obtain⟨rfl,⟨rfl,e2⟩|⟨rfl,e2⟩⟩:=hr
     . rw[e2]at h;exact qb9 h
     . rw[e2]at h;exact qb9 h
 . rw[?o (by simp[la,lb];exact hl)];have e0:(?yX)=false:=?a01
   rw[e0,Bool.false_and]at h;exact ?a4P qx2 (qb9 h)
universe L2
namespace L2
open PySem PySem.Spec PyProof.Rows
section
variable[?fC][?bV]
def eF:?WL (?rJ) ?AB=pure none:=am_miss_of_fast ?sK
def l9[?e8]{a:Addr}{xs:?jY}{k:Nat}[?E5]
 (hx:?lQ a=?e { cls:=?rJ,data:=?gE xs k }) (hA:?yG)
 (h:∀h' tk,(∀b o,?qP->?m1 b=?M)->Q none ?qX) :
 ?a3A ?Y (getAttr? ?cU ?AB):=by
 let ?AL:=s;have hT:∀tk',(#[hp,g,d,tk',os]:Shared).TypeIs ?cU ?wC:=λ_=>#[_,hx,rfl]
 have f1:=sub_AttributeError;have f3:=F.slot_list_getattribute.lookup;have f4:=F.slot_list_getattribute.bind ?cU;have f5:=am_list_getattr_none;unfold getAttr? getAttrBy? getAttrBy
 repeat (any_goals (first | assumption | exact hT _ | ((with_reducible show ?a39 (?f9 (Value.builtin "list.__getattribute__") _ _) _);apply ?RH F.slot_list_getattribute (hT _) am_entry_list_getattribute (F.args_list_getattribute_2 _ _) (meets_getattribute_miss_list a xs k #v[] ?AB _ eF (?k1)) #[hx,hA,λh' tk' e hx'=>?_]) | wp_step))
 let#[t',u',he]:=hx'.there;show ?p _ _ (getattributeRaised _ _ _ _ _ _ _) _ _ _;unfold getattributeRaised
 repeat (any_goals (first | assumption | wp_step))
 exact h _ _ hx'.keeps
def Ml:plainId ?xS=true:=?k1
def X3:?Z3 table ?xS=?e Builtin.«dict.update.loop»:=entryFor_of_fast ?sK
variable{KT:Type}[?IJ KT]{knd:KeyKind prog w KT}
abbrev Ba5(d it:Addr)(h0 h:Heap):Prop:=∀b o,b≠d->b≠it->h0.get? b=?M->?CC b=?M
def pF(hh:?yG){d it l:Addr}{items:?jY}{prs:?O1}(hl:prs.length=items.size)(ndi:d≠it)(nld:l≠d)(nli:l≠it){h0:Heap}(hL:h0.IsList l items)
 (hP:∀(i:Nat) (x:Value),?JQ=?eP->∃(p:?V7) (t:Addr) (key:Value),?HM/\x=?kM/\t≠d/\t≠it/\?a7L h0.IsTuple knd.is) {R:Result->?jX} :
 ∀(n i:Nat) (s:Shared) (acc:?O1),prs.length-i=n->i<=prs.length->acc.length+n<=sizeLine->s.heap.DictOf knd d acc->s.heap.IsListIter it l i->Ba5 d it h0 ?X →
   (∀h' tk,?IQ knd d (merged acc (?pR i))->Ba5 d it h0 h'->R (.ok (.ret ?aB)) ?qX) →
   codeAny ?Y A (?cV ?xS #[[?l d,?l it,?xV i,?aB],[]]) R s:=by
 intro n
 induction n with
 | zero =>
   ext a0J
   have hx:?JQ=none:=?kK
   ext a2H;apply qa6 (wpAny_pyNext_list_end hh hit hLs hx λh' he=>?_);show ?a39 (Builtin.Dict.addKeywords d []>>=_) _;apply qa6 ?LR;have e:?pR i=[]:=?kK
   have k':=k h' s.toks (by rw[e];exact hd.extBut he ndi) λb o n1 n2 q=>he b o n2 (hb b o n1 n2 q);exact k'
 | succ n ih =>
   ext a0J
   have hlt:i<items.size:=O9m
   let#[p,t,key,hp,ex,ntd,nti,hT,hkey]:=hP i ?TK (?xM);ext a2H;apply qa6 (wpAny_pyNext_list_item hit hLs (x:=?TK) (?xM) λh1 Br3 hs1=>?_);rw[ex];have hT1:h1.IsTuple t #v[key,p.2]:=let ?N6:=hT;#[o,(hs1.2 t nti).trans (hb _ _ ntd nti ho),r]
   have hd1:?VL knd d acc:=hd.sameBut hs1 ndi;let#[o,ho,hc,m,hdat]:=hT1;apply ?a4P qo0 ?_;apply ?a4P wpAny_tryCatch ?_;unfold Builtin.Dict.pairItems;apply qa6 (?F1 (show((?LS:Shared).TypeIs (?kM) "tuple") from#[o,ho,hc]) ?_);rw[?vT];apply qa6 (qm9 ho hdat ?mS);show ?a39 (holding [key,p.2] (dictSet d key p.2)) _;apply qo0 (wpAny_dictSet_pairs (s:=?LS) hkey hd1 (λh2 hd2 hs2=>?_) O9m);apply ?a72 _
   have e2:?pR i=p::?pR ?i:=by
    rw[List.drop_eq_getElem_cons ?c]
    congr 1
    rw[qa0 ?c]at hp;exact qa8 hp
   have hl2:=stored_length_le acc p.1 p.2;apply ih ?i { s with heap:=h2,toks:=s.toks+1 } (?D0 acc p.1 p.2) O9m O9m O9m hd2 ?_ (λb o' n1 n2 q=>?_) (λh' tk hd' hb'=>k h' tk (by rw[e2];exact hd') hb')
   . let#[oi,hoi,ri]:=Br3;exact#[oi,(hs2.2 it (?tL ndi)).trans hoi,ri]
   . exact(hs2.2 b n1).trans ((hs1.2 b n2).trans (hb b o' n1 n2 q))
universe e9
def vals_pair{x y:V}{us:?rV}(r:Vals [x,y] us):∃a b,us=?rM/\?b0 x a/\?b0 y b:=by
 cases r with
 | cons h1 r =>
   cases r with
   | cons h2 r =>
     cases r;exact#[_,_,rfl,h1,h2]
def GP[?b4]{H:Hp}{h:Heap}(hok:?NT):∀[?a2X],?SE->(?a3N t) →
 ∃prs:?p5,KV kvs prs/\prs.length=ts.length/\∀(i:Nat) t,?pQ->∃(p:?KO) (key:Value),?HM/\?a7L h.IsTuple ?zT
 | [],[],_,_=>#[[],?a8,rfl,λi t e=>?AX]
 | [],_::_,hl,_=>?H1
 | _::_,[],hl,_=>?H1
 | t::ts,kv::kvs,hl,hk=>by
   let#[prs,h1,h2,h3]:=GP hok ts kvs (by simpa using hl) λi t e=>by
    let ?PO:=hk ?i t ?tF;exact#[kv',?nI,e2]
   let ?PO:=hk 0 t rfl;have e1':kv=kv':=?nI
   subst e1';let#[_,its,rv,o,ho,hc,hdn,n,hd]:=hok t _ e2;let#[a,b,rfl,ra,rb]:=vals_pair rv;apply#[(kv.1,b)::prs,.cons #[rfl,rb] h1,by simp[h2],λi t' e=>?_];cases i with
   | zero =>
     have:t=t':=?m3
     subst this;exact#[(?aQ,b),a,rfl,#[o,ho,hc,n,hd],?sC ra]
   | succ i =>
     let#[p,key,q1,q2,q3]:=h3 i t' ?tF;exact#[p,key,?Y1,q2,q3]
inductive MX[?EG]:Prop
 | mk:∀(p:Addr) [?a2X],(?SJ)->(H p=?a3M (ts.map ?mD))->(?SE)->((?a3N t))->(∀D,?lG->Q ?g0 (?a4N D (.dK (?lW))))->?F4
abbrev Ab8:?rY:=λxs H Q=>?F4
def aE{X:Cx}(hc:?SX):Fm X ?q4 Ab8:=by
 ext uB;let#[l,ts,kvs,rfl,hl,?iO,hk,q]:=h;let ?IB:=Ul r;cases ru;have hh:X.A.handled=none:=?JK;let#[hz,its,n,rv,ho]:=?cG l _ hl;rw[qa4]at hz;have hil:its.length=ts.length:=by rw[←rv.length,qa4]
 let#[prs,hkv,hpl,hP]:=GP ?cG ts kvs ?iO hk
 have at_:∀(i:Nat) (x:Value),its.toArray[i]?=?eP->∃t,?pQ/\x=?kM:=λi x e=>by
  have e':its[i]?=?eP:=?m3
  have hlt:i<its.length:=(?gT e').1;have hb:?a7Z ts (ts[i]'(O9m)):=by simp<;>omega
  let ?sQ:=rv.get (i:=i) (x:=?mD (ts[i]'(O9m))) (by rw[qb0,hb];rfl);rw[e']at hu;cases hu;cases ru;exact#[_,hb,rfl]
 apply callType_codes (Q₁:=λobj s₁=>obj=?eV/\s₁=?VX) PySem.F.kt_called_dict (PySem.F.kt_typeCall_dict_1 _) PySem.F.entry_dict_init (kt_code_dict_new _ ?GN) ?_;rintro obj s₁ ⟨rfl,rfl⟩;have hnew:(?oY).DictOf ?dZ ?aC []:=?a06 ?X;apply#[?RA,PySem.F.args_dict_init_2 _ _,?_];unfold Builtin.«dict.__init__»;apply ?j8;unfold Builtin.Dict.selfAndRest;apply qa6 (qw5 ?RA ?_);show ?a39 (pure (?aC,[?dT l])) _;apply ?mH;show ?a39 (Builtin.Dict.updateFrom "dict.__init__" ?aC (?pL) [] ?aB) _;unfold Builtin.Dict.updateFrom;have ho1:(?oY).get? l=?e { cls:=?rJ,data:=?gE ?tK n }:=?a4O ho;apply qa6 (?F1 (show((?VX:Shared).TypeIs (?pL) ?wC) from#[_,ho1,rfl]) ?_);rw[?vT];apply qa6 (l9 ho1 hh λh1 tk hk1=>?_);rw[?o (show(none:?n1).isNone=true from rfl)];apply ?a4P qx2 ?_;have hl1:h1.IsList l ?tK:=#[_,?GG,rfl,n,rfl]
 apply qa6 (qr1 hl1 ?_);apply ?a72 _;have lt0:?a4X l:=qc3 ho;have nD:∀b o,?qP->?S2:=λb o e=>?a6R e;have up:∀b o,?qP->h1.get? b=?M:=λb o e=>hk1 _ _ (?a4O e);have nI:∀b o,?qP->b≠h1.objs.size:=λb o e=>?a6R (up b o e);let#[oD,esD,epD,hoD,rD]:=id hnew;have D7:?VL ?dZ ?aC []:=#[oD,esD,epD,?RY,rD]
 have ndi:s.heap.objs.size≠h1.objs.size:=?a6R (?RY)
 apply pF (knd:=?BS) (show X.A.in1.handled=none from hh) (prs:=prs) (items:=its.toArray) (l:=l) (d:=s.heap.objs.size) (it:=h1.objs.size) (h0:=h1.push { cls:=?aI "list_iterator",data:=?gO #v[?pL,?yE] }) (?kK) ndi (nD _ _ ho) (nI _ _ ho)
  #[_,?a4O (?GG),rfl,n,rfl] (λi x e=>?_) prs.length 0 _ [] O9m O9m ?_ (D7.push _) ?BI (λb o _ _ e=>e) (λh' tk' hd' hb'=>?_)
 . let#[t,e1,rfl]:=at_ i x e;let#[p,key,e2,#[o,ho',r'],e4]:=hP i t e1;exact#[p,t,key,e2,rfl,nD _ _ ho',nI _ _ ho',#[o,?a4O (up _ _ ho'),r'],e4]
 . have e0:([]:?p5).length=0:=rfl;omega
 . apply#[rfl,?eV,?a4N ?aC (.dK (?lW)),?_,rfl,q _ (?n9 ?h)]
   have hzz:?QG:=by
    have h1:=?WJ;rw[qm7]at h1;omega
   apply ?tR (a:=s.heap.objs.size) (o:=.dK (?lW)) (t':=tk') (λb o e=>hb' b o (nD _ _ e) (nI _ _ e) (?a4O (up _ _ e))) ?h (Xd hzz (?a5G I.big) (hkv.merge ?a8) ?_);simpa using hd'
def Pb:∀(more kvs:?c7),((?OC).map (·.1)).Nodup->?z9=?OC
 | [],kvs,_=>by simp[Jk]
 | p::more,kvs,h=>by
   have hnot:(kvs.any λkv=>?a7 (?aQ=p.1))=false:=by
    rw[List.any_eq_false];intro kv hkv hd;have e:?aQ=p.1:=by simpa using hd
    rw[qb4,qt2]at h;exact h.2.2 ?aQ (qj7 hkv) p.1 ?bG e
   have e:?UC=?VJ:=by
    unfold O7;rw[?g (by rw[hnot];decide)]
   show Jk ?sZ more=_;rw[e,Pb more (?VJ) (by simpa using h)];simp
universe L2
namespace L2
open PySem PySem.Spec PyProof.Rows PySem.SeqAt
def i9(a b:Addr)(ms ns:?dM):Meets (Builtin.«dict.__eq__» ?KN) (λA R s=>?tG/\?RD/\R (.ok (.ret (?oP ?r3))) s) :=
 Meets.of_wp λprog w A R s hs=>by
  let#[ha,hb,h]:=hs
  show ?p ?Y A.in1 (do
   let (self,other) ←Builtin.Dict.dictSlotArgs ?BN ?KN
   if !(←isInstance other ?q4) then rule s!"dict.{?BN}.not-a-dict";return ←ret .notImplemented
   ret (?oP ((←?GF s!"dict.{?BN}" (←?Y0 self) (←?Y0 other))==true))) _ _ s
  unfold Builtin.Dict.dictSlotArgs;apply ?a4P qa6 (qw5 ?P7 ?_);apply qa6 ?mS;apply ?mH;apply qa6 (qv7 (T:=?jK) (b:=true) ?WY isSubtype_dict_dict ?_);rw[?vG];apply ?a4P qb9 (qa6 (qb9 (qa6 (Uz ha hb ?_))));have e:∀b:Bool,(b==true)=b:=?vF
  rw[e];exact qb9 ?SF
def RcAt.dicts{A:Around}[?e8][?a30][?a2S](hu:A.units<cLine) :
 RcAt A s ?cU (?aM) ?r3:=λprog w E Q h =>
 richCompare_meets_room (op:=.Eq) ?P7 ?WY PySem.F.slot_dict_eq PySem.F.entry_dict_eq (PySem.F.args_dict_eq_2 _ _) (i9 a b ms ns)
  #[ha,hb,show Value.bool ?r3≠Value.notImplemented/\_ from#[(λx=>nomatch x),h]] hu
universe L2
namespace L2
open PySem PySem.Spec PyProof.Rows
section
variable[?d5][?bI]
def Bn.freeze[?V][?k6]:∃o,?a3W (?tV) s:=by
 let#[z,y,vs,r,o,es,ep,ho,c]:=id (?W0);apply#[o,?_];have ne:∀b u,?p9->u≠?tC->b≠a:=?II
 have up:∀b u,?p9->u≠?tC->upd H a (?mW) b=?nG:=?KB
 apply I.step (g':=s.gens) (t':=s.toks) (d':=s.drawn) (h':=s.heap) (H':=?tV) (ch:=[]) (λ_ q=>nomatch q) (λb ob _ _ _ q _=>q) (λb ob _ _ _ q _=>#[?Q0,q]) (λb ob _ q n=>?GE) (λb ob _ q=>#[ob,q])
  (λb xs q=>?xE) (λb ob u q=>?xE) (λb ps q=>#[#v[],by rw[?xE];simp]) (λm q=>q) (?ZD) ?x7
 by_cases hb:b=a
 . subst hb;rw[Ab]at q;cases q;exact#[ho,(?QI).stay (λ_ _ _ q=>q) (λc q=>?rF) ?C2]
 . rw[Al hb]at q;ext a0P
def Bn.thaw{o:Obj}[?V][?a33](hb:?WP):?a3W (upd H a ?cE) s:=by
 have ne:∀b u,?p9->u≠?mW->b≠a:=?II
 have up:∀b u,?p9->u≠?mW->?KG=?nG:=?KB
 have no:∀b,H b=none->?KG=none:=λb n=>?GE
 apply#[I.ok,I.os,?x7,#[I.base.keep,I.base.slot,λb ob q n x=>no b (I.base.free b ob q n x),I.base.there,λb xs q=>up b _ (I.base.tups b xs q) ?dE,λb ob u q=>?_,λb ps q=>?_],I.loc,I.cell,no _ I.free,λx c q=>no _ (I.freeC x c q),?G1,?ZD,I.len]
 . have hne:b≠a:=λz=>hb ob u (z▸q);rw[Al hne];exact ?N2 b ob u q
 . let#[m,q']:=I.base.tbls b ps q;exact#[m,up b _ q' ?dE]
 . let#[p1,p2,p3]:=I.pin p hp;exact#[p1,no _ p2,p3]
 . by_cases hba:b=a
   . subst hba;rw[Ab]at q;cases q;let#[_,q']:=?QI;exact q'.stay (λ_ _ _ q=>q) (λc q=>?rF) ?C2
   . rw[Al hba]at q;ext a0P
def Bn.notfrz[?V][?k6]:?WP:=λob u q=>by
 have:=?N2 a ob u q;rw[e]at this;cases this
def Bn.nodupK[?V][?uL]:(?e1 (·.1)).Nodup:=by
 let#[z,hd,vs,rel,o,es,ep,_,_,_,_,_,hn]:=?jE;rw[rel.keys];exact hn
universe e9
abbrev tFrz(t:TE):TE:=λσ H Q=>t σ H Q\/∃(a:Addr) (kvs:?c7),?mY/\((?e1 (·.1)).Nodup->∀o:Obj,t σ (?tV) λv H'=>?nN/\Q v ?l9)
abbrev Bj5(t:TS):TS:=λD σ H=>t D σ H\/∃(a:Addr) (kvs:?c7),?mY/\((?e1 (·.1)).Nodup->∀o:Obj,t #[?a4Y D.nx,λv H'=>?nN/\D.rt v ?l9,
 ?a4Y D.bk,?a4Y D.ct] σ (?tV))
def jL{X:Cx}{e:Expr}{t:TE}(h:PE X e t):PE X e (tFrz t):=by
 intro Ae s σ H Q I hw;rcases hw with hw|⟨a,kvs,ea,hw⟩
 . exact h Ae s σ H Q I hw
 . let#[o,I']:=I.freeze ea;have hb:=I.notfrz ea;apply Dz (h Ae s σ _ _ I' (hw (?VS (?J ea)) o)) λu s' #[v,H',I2,r,e2,q]=>#[v,_,?BD,r,q]
def Qt{X:Cx}{st:Stmt}{t:TS}(h:PS X st t):PS X st (Bj5 t):=by
 intro Ae s σ H D I hw;rcases hw with hw|⟨a,kvs,ea,hw⟩
 . exact h Ae s σ H D I hw
 . let#[o,I']:=I.freeze ea;have hb:=I.notfrz ea;apply Dz (h Ae s σ _ _ I' (hw (I.nodupK (.inl ea)) o)) λf s' hq=>?_;cases f with
   | next=>ext DM
   | brk=>ext DM
   | cont=>ext DM
   | ret u=>let#[v,σ',H',I2,r,e2,q]:=hq;exact#[v,σ',_,?BD,r,q]
def Xc[?d5][?bI]{o:Obj}[?V][?a33] :
 ?lQ a=?M/\?gQ/\?l1/\∃vs es ep,?i3/\?yR/\es.size=kvs.length/\o.ExactDict/\s.heap.DictAt ?dZ a vs ep:=by
 let#[ho,z,y,vs,r,o',es,ep,ho',ex,hd,hk,hp,hn]:=?W0;rw[ho]at ho';cases ho';apply#[ho,y,z,vs,es,ep,r,hd,?_,ex,#[o,es,ho,ex,hd,hk,hp,hn]];rw[r.length,←hp.length];simp
def KV.getV:∀[?bI][?uI]{i:Nat}{k:Key}{v:V},?i3->?iZ->∃u,?a7Z vs (k,u)/\?b0 v u
 | _,_,i,k,v,?a8,e=>?AX
 | _,_,0,k,v,?cH (b:=q) r t,e=>by
   simp only[qt8,Option.some.injEq]at e;subst e;let#[k',u]:=q;have e1:k=k':=r.1;subst e1;exact#[u,?cF,r.2]
 | _,_,i+1,k,v,?cH r t,e=>by
   let#[u,e1,e2]:=KV.getV (i:=i) t ?tF;exact#[u,?nI,e2]
def tE[?b4]{k:Key}{u:Value}(h:?a0B):?BY:=by
 rcases Dq h with⟨i,t,rfl,rfl⟩|⟨x,t,rfl,rfl⟩
 . exact ?iP
 . exact ?iP
abbrev Itm(d:Addr)(o:Obj):It :=
 #[?XB,
  λi H x H'=>∃p k v,?dI/\x=?fR/\H'=?C1/\?GM,
  ?UM]
def Yj[?fC][?bV][?e8]{it d:Addr}{i n ep:Nat}{ok ov:Value}[?bX](hit:?IF ?X it d i n ep ok ov)(h:Q ?lH s):?a3A ?Y (pyIter ?lH):=by
 have hT:?BG ?lH ?Q5:=#[_,hit,rfl]
 apply wpAny_pyIter_slot hT qw0 (ql5 qw0 hT (entryFor_alias (id':="dict_keyiterator.__iter__") ?sK rfl (?k1) ?sK:?Z3 table "dict_itemiterator.__iter__"=?e Builtin.«dict_keyiterator.__iter__») ?_ (PySem.F.args_dict_itemiterator_iter_1 _));show ?a39 (ret ?lH) s;exact qb9 #[_,rfl,?Q5,_,hT,PySem.F.slot_dict_itemiterator_next.lookup,h]
def iZ[?b4][?aS]{tes:?f2}[?ER][?a1G] :
 Xn P w K (?a5E tes) (?gI) ?f3 it (λi h=>∃ok ov,?IF h it d i es.size ep ok ov) where
 mem:=?cF
 obj:=λi h st b hb=>by
  let ?LM:=st;ext E1
  subst z;exact#[_,h1,λv q=>by cases (show Data.fields _=Data.cell v from q)]
 keep:=λi h h' st k=>by
  let ?LM:=st;exact#[ok,ov,k it ?bG _ h1]
 item:=by
  ext fA;let ?v2:=st;let ?KZ:=hg;ext tY;let ?sQ:=rel.getV hx;ext u1
  have fi:=?z2;have lti:?a4X it:=qc3 hit;have hfresh:H ?aC=none:=?n9 ?h;rw[hn]at hit;apply wpAny_pyNext_items_item hit hm hu λkey h' hkey hout htup hsz' hk=>?_;apply#[_,rfl,wpAny_letOwnedTupleGo_items hout λh3 hen S4=>?_]
  replace S4:?DF it h' h3:=S4
  have kk:∀b ob,b ∉ ?f3->?WD->h3.get? b=?r9:=λb ob n z=>by
   have n1:b≠it:=by simpa using n
   exact(S4.2 b n1).trans (hk b ob n1 z)
  have ht3:h3.get? ?aC=?e { cls:=?sR,data:=?gE #v[key,u] }:=(S4.2 _ (qm6 lti)).trans htup;have YN:∀c ob,H c=?r9->c ∉ ?f3:=λc ob e hm=>by rw[(hf c hm).1]at e;cases e
  have rX:∀b ob,H b=?r9->?S2:=λb ob z=>Aq z hfresh;apply#[?eV,?Y5,?_,rfl,#[?aC,k,v,hfresh,rfl,rfl,?OY],#[_,_,by rw[hn];exact hen],?lA]
  . apply Bn.step (s:=s) (h':=h3) (t':=s.toks) (H':=?Y5) I (g':=s.gens) (d':=s.drawn) (ch:=?f3) (?lA) (λb ob _ _ hb z _=>?xI) (λb ob _ _ hb z _=>#[?Q0,?xI]) (λb ob hb z n=>?_) (λb ob hb z=>#[ob,?xI])
     (λb ys z=>?W3) (λb ob w' z=>?W3) (λb ps z=>#[#v[],by rw[Al (rX b _ z),z];simp]) (λm hm=>?_) (λb w' z=>?_) ?x7
    . have f:=hf b hb;exact#[f.2.2.2.1,f.2.1,f.2.2.2.2.1,f.2.2.2.2.2]
    . rw[Al (?a6R z)];exact n
    . let#[ob,es',VA,hob,r]:=hm;exact#[ob,es',VA,kk _ ob (λq=>(hf _ q).2.1 rfl) hob,r]
    . by_cases hb:b=s.heap.objs.size
      . subst hb;rw[Ab]at z;cases z;exact#[(by show(2:Nat)<=sizeLine;decide),[key,u],?cH (tE hkey) (?cH ru ?a8),#[_,ht3,rfl,rfl,_,rfl]]
      . rw[Al hb]at z;apply(?cG b w' z).stay (λc y hc' q=>?_) (λc q=>?Z2) λc ys q=>?Z2
        rcases hc' with rfl | hc'
        . exact kk _ _ (YN _ _ z) q
        . exact kk _ _ (YN _ _ hc') q
  . ext E1
    subst z;rw[Al (qe2 lti)];exact(hf b hb).1
 done:=by
  ext fA;let ?v2:=st;let ?EV:=hg;ext tY;ext u1
  have hl2:=rel.length;rw[hn]at hit;exact wpAny_pyNext_items_end ?nA hit hm (?kK) ?O5
 self:=λ_ _ _ _ _ st h=>by
  let ?v2:=st;exact Yj hit h
inductive mZ[?uS](x:V)(H1:Hp):Prop
 | mk:?a50 ?gI ?P0
abbrev Ah1(td:TE):TI:=λσ H R=>?a6O ?P0
def Lp{X:Cx}{tes:?f2}{x1:Nat}{tpos apos cpos:Pos}{e:Expr}{td:TE}(he:?NR)
 (hbase:?yC e "items" ?y (?nK)=?nK:=by rfl) (hline:?TM:=by rfl):PI X (?a5E tes) (?bM (?c2 e "items" ?cJ) [] [] ?fL) (Ah1 td):=by
 intro Ae s σ H R I h;apply wpAny_Call_method0_late hbase hline (?K3);ext a0M;apply#[?jK,"dict.items",qt5,?ZO,PySem.F.type_dict_items,#[o,ho,exd.1],λb e=>by cases e;exact#[o,ho,exd.2.1],qr0 rfl (PySem.evalArgs_none ?_)];apply ?jN ?ZO hm.dictOf.typeIs PySem.F.entry_dict_items (PySem.F.args_dict_items_1 _) (meets_dict_items ?dZ d hsys) #[#[vs,hm.dictOf],?_];have I2:?a3W H1 ?YL:=?PC;have hm2:=hm.push ?xW;apply wpAny_pyIter_items (s:=?YL) (v:=s1.heap.objs.size) (d:=d) ?BI hm2 ?_;have hsz2:?PG=?ZU:=qi2 ..;apply#[_,[_],_,?gI,H1,rfl,?a7W I2.kept ?YV,iZ d _ o hd,#[?aB,?aB,?_],?lA,q]
 . rw[hsz,rel.length];exact ?gR
 . have z:b=?PG:=?iA
   subst z;ext a29
abbrev Itk(d:Addr)(o:Obj):It :=
 #[?XB,
  λi H x H'=>H'=H/\∃k v,x=?dH/\?GM,
  ?UM]
def nG[?b4][?aS]{tg:Expr}[?a1G] :
 Xn P w K tg (?jV) ?f3 it (λi h=>h.IsKeyIter it d i es.size ep) where
 mem:=?cF
 obj:=λi h st b hb=>by
  let ?OT:=st;ext E1
  subst z;exact#[oi,h1,λv q=>by rw[d1]at q;cases q]
 keep:=λi h h' st k=>st.at λob z=>k it ?bG ob z
 item:=by
  ext fA;let ?KZ:=hg;ext tY;let ?sQ:=rel.getV hx;ext u1
  rw[hn]at st;apply wpAny_pyNext_dict_item st hm hu λkey h' hkey oS hs'=>?_;apply ?JP;let ?OT:=id oS;apply HV h1 c1 d1 ?T #[?dH,H,?_,tE hkey,#[rfl,k,v,rfl,?OY],by rw[hn];exact oS,?FM];exact ?a4I ?f3 (λb ob hb z=>(hs'.2 b ?sN).trans z)
 done:=by
  ext fA;let ?EV:=hg;ext tY;ext u1
  have hl2:=rel.length;rw[hn]at st;exact wpAny_pyNext_dict_end ?nA st hm (?kK) ?O5
 self:=λ_ _ _ _ _ st h=>wpAny_pyIter_keyiter st h
inductive US[?uS](x:V)(H1:Hp):Prop
 | mk:?a50 ?jV ?VW
abbrev A25(td:TE):TI:=λσ H R=>?a6O ?VW
def Y6{X:Cx}{tg e:Expr}{td:TE}(he:?NR):PI X tg e (A25 td):=by
 intro Ae s σ H R I h;apply ?K3;ext a0M;apply wpAny_pyIter_dict hsys hm ?_;apply#[_,[_],_,?jV,H1,rfl,?PC,nG d _ o hd,?_,?lA,q]
 . rw[hsz,rel.length];exact ?BI
 . have z:b=s1.heap.objs.size:=?iA
   subst z;exact I1.fpOk ?h (I1.hok.fresh ?h)
section
variable{g:TG}{tc:TT}[?u3]
def Ub{d:Addr}{o:Obj}[?bI][?a2I](hl:∀i zs τ H,?p1->?gF->?n0)
 (hs:∀i k v zs τ H p,?iZ->?gF->?dI->g ?eW τ (?C1) ?V8)
 (hd:?a70 ?i1):?a52 (?gI) tc:=by
 apply#[λi m zs τ H=>m=kvs.length-i/\?p1/\?gF,?a0D,?_];rintro i m zs τ H ⟨rfl,hi,pp⟩;have q:=hl i zs τ H hi pp;by_cases hlt:?JE
 . apply ?Z #[?JM,?lT,λys' τ' H' p'=>?N8,?XN];let ?UV:=y;exact hs i k v zs τ _ p (y kvs q) pp hp
 . have e:?C3:=O9m
   subst e;exact ?J #[?FE,hd zs τ H pp]
def Sa{d:Addr}{o:Obj}[?bI][?a0Q]
 (hs:∀i k v σ H p,?iZ->?i4->?dI->g ?eW σ (?C1) ?CJ) [?a2N] :
 ∃W:?zS,(∃m,W 0 m σ H)/\∀i m σ H,?y3 →
   (?a6X ?gI)\/(?a7O ?gI ?gI):=by
 ext a0I
 . ext a0N;let ?UV:=y;exact hs i k v σ _ p (y kvs q) pp hp
 . have e:?C3:=O9m
   ext a23
def Vj{d:Addr}{o:Obj}[?bI][?a0Q]
 (hs:∀i k v σ H,?iZ->?i4->g (?dH) σ H ?CJ) [?a2N] :
 ∃W:?zS,(∃m,W 0 m σ H)/\∀i m σ H,?y3 →
   (?a6X ?jV)\/(?a7O ?jV ?jV):=by
 ext a0I
 . ext a0N;let#[rfl,k,v,rfl,y]:=y;exact hs i k v σ _ (y kvs q) pp
 . have e:?C3:=O9m
   ext a23
universe e9
universe L2
namespace L2
open PySem PySem.Spec PyProof.Rows PySem.SeqAt
def tH[?b4][?o0][?uI](hp:Pairs ?fJ es vs):∀[?cK],(∀e∈es,∃k,?zT k e.key=true/\e.hash=(?CA).hash k)->KV ?mN vs->?mK:=by
 induction hp with
 | nil =>
   intro ms _ r;cases ms with
   | nil=>exact ?a8
   | cons p ms=>cases r
 | @cons e kv es kvs h1 h2 _ ih =>
   intro ms hk r;cases ms with
   | nil=>cases r
   | cons p ms =>
     cases r with
     | cons r0 r1 =>
       let#[k,v]:=kv;let#[e1,t',e2]:=r0;have e1':?pW=k:=e1;subst e1';let#[t,ek]:=(show ∃t,e.key=?WK p.1 t from tE h1)
       let#[k',hk1,hk2]:=hk e (qb3 ..)
       have ek':k'=?pW:=by
        rw[ek]at hk1;rcases Dq hk1 with⟨i,t2,z1,z2⟩|⟨x,t2,z1,z2⟩
        . cases z2;exact z1
        . cases z2
       subst ek';let ?VG:=p;exact ?cH ek hk2 (h2.trans e2) (ih (λe' he=>hk e' (qb6 _ he)) r1)
def Lr[?cK]:((cK ms).map (·.1)).Nodup↔(?iS (·.1)).Nodup:=by
 unfold cK List.Nodup;rw[qk5,qt1,qt1];constructor
 . intro h;exact h.imp λ{a b} n z=>n (by simp[z])
 . intro h;exact h.imp λ{a b} n z=>n (by simpa using z)
section
variable[?d5][?cK]
def Bn.nodupC[?V](e:?wO):(?iS (·.1)).Nodup:=Lr.mp (?VS e)
def Bn.idict[?V](e:?wO):?tG:=by
 let#[z,hd,vs,rel,o,es,ep,ho,ex,hda,hk,hp,hn]:=?jE;exact#[#[o,es,ep,ho,ex,hda,tH hp (λe he=>hk e (by simpa using he)) rel],hd,I.nodupC e]
universe e9
abbrev sameC(ms ns:?dM):Bool:=?N0
inductive zP(x:V)(y:V)(H:Hp)(Q:VK):Prop
 | mk:∀a b ms ns,?sM->(y=?aM)->(?wO)->(Rd H b (.dK (cK ns)))->(Q (.bl (sameC ms ns)) H)->?YR
abbrev Bk8:R2:=λx y H Q=>?YR
section
variable{X:Cx}{n:Nat}[?aS]
def Ad0(hu:X.A.units+n<cLine):P9 X (compareOp .Eq) Bk8:=by
 intro Ae s σ H x y v u Q I rx ry h;let#[a,b,ms,ns,rfl,rfl,ha,hb,q]:=h;cases rx;cases ry;exact RcAt.dicts (I.idict ha) (I.idict hb) O9m ?gS X.w X.xe _ #[.bl (sameC ms ns),H,I,rfl,q]
inductive IS[?EG]:Prop
 | mk:∀a kvs,(xs=[?aW,.ty ?jK])->(?kH)->(Q (?tT) H)->?K2
abbrev VR:?rY:=λxs H Q=>?K2
def X7:Fm X (?cV "isinstance") VR:=by
 ext uB;let ?P8:=h;let#[u,v,rfl,rx,rt]:=Ze r;cases rt;cases rx;let#[z,hd,vs,rel,o,es,ep,ho,ex,_]:=?jE;exact PySem.IsiPair.dict_dict ho ex.1 #[?tT,H,I,rfl,q]
universe e9
universe L2
namespace L2
open PySem PySem.Spec PyProof.Rows
inductive mY[?EG]:Prop
 | mk:∀a kvs,(xs=?jF)->(?kH)->(?a81 ?cE)->?KV
abbrev Ab9:?rY:=λxs H Q=>?KV
def Gf{X:Cx}:Fm X ?q4 Ab9:=by
 ext uB;let ?P8:=h;let#[u,rfl,rx]:=Ul r;cases rx;exact tY I e λp s' hp I'=>#[?fR,_,I',rfl,q p hp]
def u1{n c:Nat}(h:n+8<c):n+1<c:=O9m
abbrev Au[?bH](k:Int):Int:=(?gY).getD 0
abbrev putI[?bH](k v:Int):?dM:=if (ms.any ?hD)=true then ?a62 ?iS else ms++[?eC]
abbrev Jd[?bH](k:Int):?dM:=ms.filter λp=>?a7 (p.1≠k)
def Al2[?bH](k v:Int):O7 ?mN (?iR) (?a4 v)=cK (putI ms k v):=by
 unfold O7 putI cK
 have e:((?iS λp=>?SS).any λkv=>?a7 (?aQ=?iR))=(ms.any ?hD):=by
  rw[List.any_map]
  congr 1
  funext p
  simp
 rw[e];split
 . rw[qk5,qk5]
   congr 1
   funext p
   simp only[Function.comp];by_cases q:?bE
   . simp[q]
   . have q':¬?HP=?iR:=λz=>q (by simpa using z);simp[q]
 . simp
def xP[?bH](k:Int):X4 ?mN (?iR)=cK ?MR:=by
 unfold X4 Jd cK;rw[List.filter_map]
 congr 1
 congr 1
 funext p
 simp
def kZ[?bH](k:Int):P5 ?mN (?iR)=?a5Y ?gY:=by
 unfold lookI cK P5;rw[List.find?_map,Option.map_map,Option.map_map]
 have e:((λp:?s5=>?a7 (p.1=?iR)) ∘ λp:?p6=>?SS)=λp:?p6=>?XM:=by
  funext p
  simp
 rw[e];rfl
def Vx[?bH](k:Int):(?a5Y ?gY).getD (?a4 0)=?a4 (Au ms k):=by
 unfold Au;cases ?gY<;>rfl
def Dw(p:?p6)[?bH](k:Int):?bF (p::ms) k=if ?bE then ?jS else ?gY:=by
 unfold lookI;by_cases q:?bE
 . rw[List.find?_cons_of_pos (?fO),?o q];rfl
 . rw[List.find?_cons_of_neg (?fO),?g q]
def cE[?bH](k v j:Int):?bF (putI ms k v) j=if j=k then ?dW else ?KC:=by
 have hs:∀[?EH],?bF (?a62 ?e0) j=if j=k then(?yF).map (λ_=>v) else ?yF:=by
  intro ns
  induction ns with
  | nil=>simp[lookI]
  | cons p ns ih =>
    rw[qc8,Dw,Dw,ih];by_cases e1:?bE
    . by_cases e2:j=k
      . simp[e1,e2]
      . have e3:¬k=j:=?a0A;simp[e1,e2,e3]
    . by_cases e2:j=k
      . simp[e1,e2]
      . simp[e1,e2]
 have hn:∀[?EH],(ns.any ?hD)=(?BA).isSome:=by
  intro ns
  induction ns with
  | nil=>rfl
  | cons p ns ih =>
    rw[qn2,Dw,ih];by_cases e1:?bE<;>simp[e1]
 have ha:∀[?EH],?bF (ns++[?eC]) j=(?yF).or (if k=j then ?dW else none):=by
  intro ns
  induction ns with
  | nil=>simp[Dw,lookI]
  | cons p ns ih =>
    rw[List.cons_append,Dw,Dw,ih];by_cases e1:p.1=j<;>simp[e1]
 unfold putI;rw[hn];cases q:lookI ms k with
 | some z =>
   simp only[Option.isSome_some,if_true];rw[hs];ext bJ
   . subst e;simp[q]
   . simp[e]
 | none =>
   simp only[Option.isSome_none,qs6,if_false];rw[ha];ext bJ
   . subst e;simp[q]
   . have e':¬k=j:=?iM;simp[e,e']
def jX[?bH](k j:Int):?bF ?MR j=if j=k then none else ?KC:=by
 unfold Jd
 induction ms with
 | nil=>simp[lookI]
 | cons p ms ih =>
   rw[qm2,Dw];by_cases e1:?bE
   . rw[?g (?nI),ih];by_cases e2:j=k
     . simp[e2]
     . have e3:¬p.1=j:=λz=>e2 (by rw[←z,e1]);simp[e2,e3]
   . rw[?o (?nI),Dw,ih];by_cases e2:j=k
     . subst e2;simp[e1]
     . simp[e2]
section
variable[?b4][?aS]{mg:?lR}{base:Heap}
universe e9
section
variable{X:Cx}{x:Str}{ps:?lS}{j k:Nat}{sp:Sp}{p pos:Pos}{e:Expr}[?o7]{t:TA}
universe e9
abbrev upN(n:Nat):?f8:=?Y4 λ ?tN=>(i:Int)
def lN(n:Nat):(upN n).length=n:=by simp[upN]
abbrev Itd(hi:Int)(n:Nat):It:=#[λi _=>i<n,λi H x H'=>H'=H/\x=?zN,λi _=>n<=i]
def Qr(a b:Int):?VD a b ?G=if b<a then a-b else 0:=by
 unfold Builtin.Range.rangeSize;rw[?vG];split
 . show(a-b-1) / 1+1=a-b;rw[Int.ediv_one];omega
 . rfl
def JC{a b:Int}(ha:-(?r2)<=a)(ha':a<?r2)(hb:-(?r2)<=b)(hb':b<?r2):Builtin.Range.small a b ?G=true:=by
 unfold Builtin.Range.small;rw[Qr];simp only[Builtin.Range.rangeFitsLong,qb7,qs1,qp5,qx3];split<;>simp<;>omega
def NH[?b4][?aS]{tg:Expr}(it:Addr)(hi:Int)(n:Nat):Xn P w K tg (?qA) ?f3 it (λi h=>?SG h it (hi+?tN*?G) (?l3-?tN) ?G) where
 mem:=?cF
 obj:=λi h st b hb=>by
  have e:b=it:=?iA
  subst e
  exact#[_,st,λv z=>by
   have z':Data.fields _=Data.cell v:=z;cases z']
 keep:=λi h h' st k=>k it ?bG _ st
 item:=by
  ext fA;let ?TB:=?z2;have W:=Walks.range (prog:=X.prog) (w:=X.w) ?nA it hi ?G n;apply W.item i s _ _ hg st λv h' tk hv st' kk=>?_;let ?iP:=hv;have I1:?a3W H ?qX:=?P5 (λb o hb e=>kk b o ?sN e) f0 f1 f3 f4 f5;apply#[_,rfl,HV (s:=?qX) (n:="range_iterator") st' rfl rfl ?T #[?zN,H,I1,#[t,?_],?GN,st',?FM]];rw[show hi+(i:Int)*?G=hi-i by omega]
 done:=by
  ext fA;let ?TB:=?z2;exact wpAny_pyNext_range_end ?nA st (by have:n<=i:=hg;omega) λh' eb=>#[rfl,?P5 (t':=s.toks) (λb o hb e=>eb b o hb e) f0 f1 f3 f4 f5]
 self:=λ_ _ _ _ _ st h=>wpAny_pyIter_rangeiter st h
inductive UT[?uS](vs:?bS)(H1:Hp):Prop
 | mk:∀(n:Nat),(vs=[?m ?h7,?m ?G,?m ?G])->(n<=1000000)->(R (Itd ?h7 n) H1)->?NS
abbrev A27(ta:TA):TI:=?a71 ?NS
def wA{X:Cx}{tg:Expr}{a b c:Expr}{ta:TA}{p pos:Pos}(hg:Gl X ?kP)(hm:?hW ?kP=none)(ha:PA X ?CI ta)(hs:?eN ?CI ?y=[?XF,?oW,?M5]:=by rfl)(hs2:?eN [b,c] ?y=[?oW,?M5]:=by rfl) :
 PI X tg (?a6C ?kP ?CI) (A27 ta):=by
 intro Ae s σ H R I h;apply Call_ (M7 I hg hm boot_range (qh1 (Dz (ha pos Ae s σ H _ I h) λus s1 #[vs,H1,I1,r1,q1]=>?_) (by rw[hs,hs2]) (by rw[hs2];rfl)));let#[n,e,hn,q]:=q1;subst e;cases r1 with
 | cons r rr =>
   cases rr with
   | cons r' rr =>
     cases rr with
     | cons r'' rr =>
     cases rr;let ?iP:=r;let#[t',rfl]:=r';let#[t'',rfl]:=r'';apply call_range_3 ?T ?_ (Or.inl (PyProof.noPylong_small O9m));apply wpAny_pyIter_range (IsRange.new ..) (JC O9m O9m O9m O9m) ?_;have I2:Bn X Ae σ H1 { s1 with heap:=?a3U t,toks:=s1.toks }:=?xK ?X7
     apply#[?QC,[_],_,_,H1,rfl,
      ?a7W I2.kept ?X7,NH _ ?h7 n,?_,?lA,q]
     . have e1:?IP=?l3-1:=?cF
       have e2:?l3-?wQ=?VD ?h7 ?G ?G:=by rw[Qr];ext aA
       show ?SG _ _ (?IP) (?l3-?wQ) ?G;rw[e1,e2];exact ?gR
     . have e:b=?QC:=?iA
       subst e;ext a29
def tR{hi:Int}{n:Nat}{g:TG}{tb:TS}{D:Ends}{σ:St}{H:Hp}(Pv:?D6)(h0:?QE)
 (hs:∀i σ H,i<n->?i4->g (?zN) σ H ?CJ) (hd:∀σ H,Pv n σ H->?kJ) :
 ∃W:?zS,(∃m,W 0 m σ H)/\∀i m σ H,?y3 →
   (?a6X ?qA)\/(?a7O ?qA ?qA):=by
 apply#[λi m σ H=>m=n-i/\?hU/\?i4,#[n,?cF,?aE,h0],?_];rintro i m σ H ⟨hm,hi',hp⟩;by_cases hlt:i<n
 . apply ?Z #[hlt,?lT,λσ' H' h=>#[n-?i,O9m,rfl,O9m,h],?_];rintro x H' ⟨rfl,rfl⟩;exact hs i σ _ hlt hp
 . apply .inl #[by show n<=i;omega,hd σ H (by have:i=n:=O9m
                                              subst this;exact hp)]
universe L2
namespace Lat
open Hb
noncomputable abbrev Mat:=?dY
def sumN_all0[?D]{n:Nat}(h:∀k,k<n->f k=0):?c8=0:=by rw[Ah h,Rp]
def sumN_one[?D]:∀{n j:Nat},j<n->(∀k,k<n->k≠j->f k=0)->?c8=f j
 | n+1,j,hj,h=>by
   show ?i6=f j;by_cases e:j=n
   . subst e;rw[?U λk hk=>h k ?c ?c];omega
   . rw[?a9 (n:=n) (j:=j) ?c ?XJ,h n ?c (?iM)];omega
abbrev In(w n:Nat)(R:Mat)(v:?k):Prop:=∃x:?k,∀c,c<w->v c=?a3G ?jD n
def In.row{w n:Nat}{R:Mat}{j:Nat}(hj:j<n):?a6A R ?hZ:=#[λk=>if k=j then 1 else 0,λc _=>by
 rw[Dv (λk=>?jD) j n,?vI]]
def In.zero(w n:Nat)(R:Mat):?a6A R (?cT):=#[?cT,λc _=>by rw[sumN_all0];intro k _;simp]
def In.mix[?a2L](hv:?CH)(a b:Int):?a6A R ?oF:=by
 let ?a1:=hu;let ?n3:=hv;apply#[λk=>a*x k+b*y k,?dF];show ?y1=_;rw[?f0,hy c hc,←Ay,←Ay,←Cm];apply ?BZ;rw[qo5,qe0,qe0]
def In.congr[?a2L](h:?SR):?CH:=by
 let ?a1:=hu;exact#[x,λc hc=>by rw[←?sO];exact ?f0]
structure Du(w r:Nat)(R:Mat)[?u]:Prop where
 lt:?y8
 inc:?a5N r
 zero:∀j c,j<r->?vN
 pos:∀j,j<r->?kO
 red:∀k j,k<j->j<r->?vB
def Du.mono[?o3][?j][?o5]:∀j k,j<=k->k<r->t j<=t k:=λj k h1 h2=>by
 rcases qh3 j k with z | z
 . exact qe5 (?cW j k z h2)
 . rw[?a3L j k];exact ?b6
def Du.ge[?o3][?j][?o5]:∀j,j<r->j<=t j
 | 0,_=>?aE
 | j+1,hj=>by
   have:=h.ge j O9m;have:=?cW j ?P O9m hj;omega
def Du.lead[?o3][?j][?o5]{v x:?k}(hx:∀c,c<w->v c=?W9) :
 ∀j,j<=r->(?Y8)->(∀k,k<j->x k=0)/\(j<r->?hA=x j*?aF):=by
 intro j
 induction j with
 | zero =>
   intro _ _;apply#[?C6,?GK];rw[hx _ (h.lt 0 hr),?RP];rw[?aU k _ hk (?cW 0 k ?c hk)];simp
 | succ j ih =>
   intro hj hv;let ?eE:=ih O9m λk hk=>hv k O9m
   have hxj:x j=0:=by
    have e:=h2 O9m;rw[hv j ?c]at e;rcases ?tI ?s2 with z | z
    . exact z
    . have:=?mB;omega
   have hall:∀k,k<j+1->x k=0:=λk hk=>by
    by_cases e:k=j
    . rw[e];exact hxj
    . exact h1 k O9m
   apply#[hall,?GK];rw[hx _ (h.lt _ hr),?RP];by_cases e:k<j+1
   . rw[hall k e];simp
   . rw[?aU k _ hk (?cW ?P k ?c hk)];simp
def Du.only[?o3][?j][?o5]{v:?k}(hv:?SH){j:Nat}(hj:j<r)(h0:?Y8)(h1:?hA=?aF)(h2:∀k,j<k->k<r->v ?a6=0):∀c,c<w->v c=?eO:=by
 let ?a1:=hv;let ?L0:=h.lead hx j O9m h0
 have xj:x j=1:=by
  have e:=a2 hj;rw[h1]at e;have p:=?sB;have:(x j-1)*?aF=0:=by rw[Int.sub_mul];omega
  rcases ?tI ?I with z | z<;>omega
 have rest:∀m,m<=r->∀k,j<k->?RB:=by
  intro m
  induction m with
  | zero=>intro _ k _ hk;omega
  | succ m ih =>
    intro hm k hjk hk;by_cases e:k<m
    . exact ih O9m k hjk e
    have ek:k=m:=O9m
    subst ek;have hv2:=h2 k hjk O9m
    have e2:v ?a6=R j ?a6+?nE:=by
     rw[hx _ (h.lt k ?c)]
     have:?f (λi=>x i*?z6) r=?f (λi=>((?rX)*?z6)+((if i=k then 1 else 0)*(?nE))) r:=by
      ext uM;by_cases e1:i=j
      . subst e1;rw[xj,?s,?q];simp
      . rw[?aX];by_cases e3:i=k
        . subst e3;rw[?s];simp
        . rw[?yT];by_cases e4:i<j
          . rw[a1 i e4];simp
          . by_cases e5:i<k
            . rw[ih ?c i ?c e5];simp
            . rw[?aU i _ hi (?cW k i ?c hi)];simp
     rw[this,Cm,Dv (λi=>?z6) j r,?vI,Dv (λ_=>?nE) k r,?N]
    rw[hv2]at e2;let ?FW:=?j7 j k hjk O9m;have p:=?a0 k O9m;rcases ?QD (x k) 0 with z | z | z
    . have:?nE<=-1*?fQ:=?sE;omega
    . exact z
    . have:1*?fQ<=?nE:=?sE;omega
 intro c hc;rw[?f0,?a9 hj ?A3,xj,qd8];by_cases e:k<j
 . rw[a1 k e];simp
 . rw[rest r ?h k ?c hk];simp
structure E8[?b5](T T':Mat):Prop where
 fwd:∀i,i<n->?a6A T (T' i)
 bwd:∀i,i<n->?a6A T' (T i)
 st:∃r t,?bC/\?nP/\?lI
def In.sub{w n r:Nat}{R:Mat}{v:?k}(h:?CH)(hr:?bC)(hz:?FH):?SH:=by
 let ?a1:=h;apply#[x,?dF];rw[?f0]
 have:∀m,r<=m->m<=n->?a3G ?jD m=?W9:=by
  intro m
  induction m with
  | zero=>intro h1 _;rw[?a3L r 0]
  | succ m ih =>
    intro h1 h2;by_cases e:r=m+1
    . rw[e]
    . show ?f _ m+x m*R m c=_;rw[?UG,hz m c ?c ?c hc];simp
 exact ?I n hr ?h
abbrev Ol(n w k:Nat)(T:Mat):Prop:=k<=n/\k<=w/\(∀j,j<k->0<?nF)/\(∀j c,j<k->c<w->c≠j->?gD=0)/\(∀i j,i<n->j<k->?J9)
def Ol.flip{n w k:Nat}{T:Mat}(h:?l2):Ol w n k (?Q6):=#[h.2.1,h.1,h.2.2.1,λj c hj hc hne=>h.2.2.2.2 c j hc hj hne,λi j hi hj hne=>h.2.2.2.1 j i hj hi hne]
abbrev MT(n w k:Nat)(T:Mat):Prop:=?l2/\k<n/\k<w/\0<?aJ/\∀c,c<w->c≠k->?cC=0
def E8.keep[?fI][?EE]:∀{k:Nat},?l2->Ol n w k T'/\(∀j c,j<k->c<w->T' j c=?gD)/\∀r t,?bC->?nP->(?lI)->k<=r/\∀j,j<k->t j=j:=by
 intro k
 induction k with
 | zero =>
   intro h;exact#[?SB,?tB,λr t _ _ _=>#[?aE,?hS]]
 | succ k ih =>
   intro h;let#[hn,hw,hp,hr,hc]:=h;let#[c1,c2,c3]:=ih #[O9m,O9m,λj hj=>?NN,λj c hj=>hr j c O9m,λi j hi hj=>hc i j hi O9m]
   have key:∀r t,?bC->?nP->(?lI)->k<r/\?pG/\(∀c,c<w->?w6=?cC):=by
    intro r t kC hst hz;let ?BT:=?UQ;have hin:=(s.bwd k O9m).sub kC hz;let ?a1:=?BW;have v0:?OW:=λl hl=>by rw[ht l hl];exact hc k l O9m O9m O9m
    let#[x0,_]:=?AA;have hpk:=?LF
    have hlt:k<r:=by
     ext hL
     have:?pD:=by
      rw[?KK];ext DP
     omega
    have htk:?pG:=by
     have g:=?LA;apply qi8 ?eQ g
     have:?pD:=by
      rw[?KK];ext uC;by_cases e:l<k
      . rw[x0 l e];simp
      . ext a1E
     omega
    let#[_,a2]:=?AA;ext a1B;let ?n3:=s.fwd k O9m
    have e2:?d0=y k*?aJ:=by
     rw[hy k ?c];exact ?a9 O9m λl hl hne=>by rw[hc l k hl ?c hne];simp
    have same:?aJ=?d0:=by
     ext a2A
     have d2:?aJ∣ ?d0:=#[y k,by rw[e2,qe8]]
     exact Int.le_antisymm (?X1) (qn3 hpk d1)
    apply#[hlt,htk,λc hcw=>?_];exact(?LQ hin hlt v0 (by rw[htk];exact same) (λl hl1 hl2=>hr k ?v O9m (?f6 l hl2) (?a6K l)) c hcw).symm
   let ?C0:=s.st;let#[k1,k2,k3]:=?NQ;apply#[#[hn,hw,?a5,?Q7,?OJ],λj c hj hcw=>?_,λr t kC hst hz=>?_]
   . ext bJ
     . subst e;rw[k3 j ?c];exact ?NN
     . exact c1.2.2.1 j O9m
   . ext bJ
     . subst e;rw[?SA];exact ?a6Z hr
     . exact ?a6Z ?QP
   . ext bJ
     . subst e;by_cases e2:i<j
       . exact ?QP i j e2 O9m O9m
       . by_cases e3:i<r
         . exact ?a5D j j
         . exact hz i j O9m hi O9m
     . exact c1.2.2.2.2 i j hi O9m hne
   . ext bJ
     . subst e;exact ?SA
     . exact c2 j c O9m hcw
   . let#[a,b,_]:=?NQ;let#[_,ht]:=?UQ;apply#[a,?a5];ext bJ
     . rw[e];exact b
     . exact ?NO
abbrev Xo[?b5](T Og:Mat):Prop:=∃T',?BQ/\E8 w n (λi j=>T' j i) (λi j=>Og j i)
abbrev Straight[?b5](T:Mat):Prop:=∀i j,i<n->j<w->?J9
def Xo.next{n w k:Nat}[?ED](h:?l2):?OZ/\(?X6 n w Og\/?NW):=by
 let ?xH:=s;let ?pZ:=s1.keep h;let ?JJ:=?GJ;have hc:?OZ:=g1.flip;apply#[hc,?_];let ?C0:=s1.st;let ?O6:=s2.st;let ?BT:=?T8;let ?YY:=?XE;by_cases e:k<r
 . right;have p:=?pC k e;have tw:=?f6 k e;have tk:k<=t k:=?l0 k e;have hin:=(?sW ?a6 tw).sub hqw TH;let ?a1:=?BW
   have v0:∀l,l<k->(?a5O ?a6) ?sL=0:=λl hl=>by
    show T' ?sL ?a6=0;rw[hu l hl];exact ?rL l ?a6 hl tw O9m
   let#[x0,_]:=bE.lead hx k kq v0;have hkn:k<n:=O9m
   have kq2:k<q:=by
    ext hL
    have:T' k ?a6=0:=by
     show(?a5O ?a6) k=0;rw[?a00];ext DP
    omega
   have huk:u k=k:=by
    apply ?RJ
    have:T' k ?a6=0:=by
     show(?a5O ?a6) k=0;rw[?a00];ext uC;by_cases e2:l<k
     . rw[x0 l e2];simp
     . show x l*?D2=0;ext a13
    omega
   have p2:=?S0;rw[huk]at p2;apply#[hc,hkn,O9m,p2,?K7];rcases qh3 c k with z | z
   . exact hc.2.2.2.2 k c hkn z O9m
   . by_cases e3:c<q
     . exact ?a5B e3 e3
     . exact TH c k O9m hcw hkn
 . left;have T'0:∀i c,k<=i->?ZS:=λi c hi hin hcw=>hz i c O9m hin hcw;intro i j hi hj hne;rcases qh3 i k with z | z
   . exact hc.2.2.2.1 i j z hj (λw=>hne w.symm)
   . let ?n3:=?a78 s2.fwd;have:Og i j=?f (λl=>y l*T' i l) w:=hy i hi;rw[this];exact ?U λl hl=>by rw[T'0 i l z hi hl];simp
def Xo.less{n w k:Nat}[?ED](h:?X8):Ol n w ?bT Og\/(?NW/\?kU∣ ?aJ/\?kU<?aJ):=by
 let#[hcl,hn,hw,hp,hr]:=h;have s0:=s;let ?xH:=s;let ?pZ:=s1.keep hcl;let ?C0:=s1.st;let ?BT:=?T8;have hin:=(s1.bwd k hn).sub kC hz;let ?a1:=?BW;have v0:?OW:=λl hl=>by rw[ht l hl];exact hr l O9m O9m
 let#[x0,a2]:=?AA
 have hlt:k<r:=by
  ext hL
  have:?pD:=by
   rw[hx k hw];ext DP
  omega
 have htk:?pG:=by
  apply qi8 ?eQ (?LA)
  have:?pD:=by
   rw[hx k hw];ext uC;by_cases e:l<k
   . rw[x0 l e];simp
   . ext a1E
  omega
 ext a1B;ext a2A
 have le1:=qn3 hp d1
 have below:∀i,i<n->i≠k->T' i k=0:=λi hi hne=>by
  rcases qh3 i k with z | z
  . exact ?rL i k z hw O9m
  . by_cases e3:i<r
    . exact ?a5D k k
    . exact hz i k O9m hi hw
 by_cases same:?d0=?aJ
 . left;have row:∀c,c<w->?cC=?w6:=?LQ hin hlt v0 (by rw[htk];exact same.symm) (λl hl1 hl2=>hr ?v (?f6 l hl2) (?a6K l))
   have cl':Ol n w ?bT T':=by
    apply#[O9m,O9m,?a5,?Q7,?OJ]
    . ext bJ
      . subst e;exact pk
      . exact h1.2.2.1 j O9m
    . ext bJ
      . subst e;rw[←row c hcw];exact hr c hcw hne
      . exact ?a6Z ?rL
    . ext bJ
      . subst e;exact below i hi hne
      . exact h1.2.2.2.2 i j hi O9m hne
   exact(s2.keep cl'.flip).1.flip
 . right;have lt1:?d0<?aJ:=O9m
   let#[hc2,q2]:=s0.next hcl;let ?JJ:=?GJ;let ?O6:=s2.st;let ?YY:=?XE;have Br4:=(?sW k hw).sub hqw TH;let ?n3:=id Br4
   have w0:∀l,l<k->(?a5O k) ?sL=0:=λl hl=>by
    show T' ?sL k=0;rw[hu l hl];exact ?rL l k hl hw O9m
   let#[y0,b2]:=bE.lead hy k kq w0;have hyk:?d0=?f (λl=>y l*?D2) q:=hy k hn
   have kq2:k<q:=by
    ext hL
    have:?d0=0:=by
     rw[hyk];exact ?a6V y0
    omega
   have huk:u k=k:=by
    apply ?RJ
    have:?d0=0:=by
     rw[hyk];ext uC;by_cases e2:l<k
     . rw[y0 l e2];simp
     . ext a13
    omega
   have e3:T' (u k) k=y k*?YC:=b2 kq2;rw[huk]at e3;have p2:0<?YC:=?S0;rw[huk]at p2;have d2:?kU∣ ?d0:=#[y k,by rw[e3,qe8]]
   have le2:=?X1;apply#[#[hc2,hn,hw,p2,?K7],qx0 d2 d1,O9m];rcases qh3 c k with z | z
   . exact hc2.2.2.2.2 k c hn z O9m
   . by_cases e4:c<q
     . exact ?a5B e4 e4
     . exact TH c k O9m hcw hn
abbrev Uj(i:Nat):Int:=if i%2=0 then 1 else -1
def Zx(i:Nat):Uj ?i=- Uj i:=by
 unfold Uj;by_cases h:i%2=0
 . rw[?q,?qL]
 . rw[?N,?j2];rfl
def Y3(i:Nat):(Uj i).natAbs=1:=by unfold Uj;split<;>rfl
abbrev Hf(A:Mat)(i:Nat):Mat:=λr c=>?xQ
abbrev det:Nat->Mat->Int
 | 0,_=>1
 | n+1,A=>?lV
def Dt:∀{n:Nat}{A B:Mat},(∀r c,r<n->c<n->?i7=B r c)->?cY=?a7S B
 | 0,_,_,_=>rfl
 | n+1,A,B,h=>by
   ext uM;rw[h i 0 hi ?c,Dt (n:=n) (A:=Hf A i) (B:=Hf B i)];intro r c hr hc;exact ?Q3
abbrev Bz(A:Mat)[?EO]:Mat:=λr c=>if r=p then u c else ?i7
def Bp(A:Mat)[?EO](c:Nat):Bz A p u p c=u c:=?s
def Bw{A:Mat}{p r:Nat}[?oD](h:?gM)(c:Nat):Bz A p u r c=?i7:=?j2
def U7{A:Mat}{p i:Nat}[?oD](h:i≠p):Hf ?kW i=Bz (Hf A i) ?gU (λc=>?mO):=by
 funext r c
 show(if ?a4K i then ?mO else ?xQ)=if r=?gU then ?mO else ?xQ
 have e:(?a4K i)↔(r=?gU):=by
  split<;>split<;>omega
 by_cases z:r=?gU
 . rw[?dO,?o (e.mpr z)]
 . rw[?eR,?g λw=>z (e.mp w)]
def Ju{A:Mat}{p:Nat}[?oD]:Hf ?kW p=Hf A p:=by
 funext r c
 show(if ?a4K p then ?mO else ?wX)=?wX;rw[?g ?bQ]
def Fs:∀{n p:Nat} (A:Mat) [?o6] (a b:Int),p<n->?a3F ?SV=a*?a7S ?kW+b*?a3F v
 | n+1,p,A,u,v,a,b,hp=>by
   show ?rN=a*?rN+b*?rN;ext k4;ext uM;by_cases e:i=p
   . subst e;rw[Bp,Bp,Bp,Ju,Ju,Ju]
     grind
   . rw[?gG,?gG,?gG,U7 e,U7 e,U7 e];rw[Fs (Hf A i) (λc=>?mO) (λc=>v ?b1) a b ?bQ]
     grind
def Ik(A:Mat)(p:Nat):?ZT=A:=by
 funext r c
 unfold Bz;split
 . rename_i h;rw[h]
 . rfl
def Ck{A:Mat}{p q:Nat}(h:?gW)[?o6]:?VE=Bz (Bz A q v) p u:=by
 funext r c
 unfold Bz;by_cases e:r=q
 . rw[?bK,?q,?bK]
 . rw[?bN,?bN]
def EY:∀[?uT],p+1<n->(?a63 ?bU)->?qK
 | n+1,p,A,hp,h=>by
   show ?lV=0
   have same:?AG=?BJ:=Dt λr c hr hc=>by
    show ?wX=A (if r<p+1 then r else r+1) ?b1;ext kE
    . subst e;rw[?q,?N];exact(?rS).symm
    . by_cases e2:r<p
      . rw[?i5,?N]
      . ext DY
   have two:?lV=?f (λi=>((if i=p then 1 else 0)*(Uj p*A p 0*?AG))+((if i=p+1 then 1 else 0)*(Uj ?bU*A ?bU 0*?BJ))) ?H:=by
    ext uM;by_cases e1:i=p
    . subst e1;rw[?s,?q];simp
    . by_cases e2:i=p+1
      . subst e2;ext u6;simp
      . rw[?aX,?g6]
        have z:?TZ=0:=by
         apply EY (p:=?TS) ?bQ ?dF;show A (if ?gU<i then ?gU else ?rP) ?b1=A (if ?rP<i then ?rP else ?rP+1) ?b1;by_cases e3:p<i
         . rw[?xY,?xY,?N];exact ?rS
         . rw[?yT,?q,?q,show p-1+1=p by omega];exact ?rS
        rw[z];simp
   rw[two,Cm,Dv (λ_=>Uj p*A p 0*?AG) p ?H,?N,Dv (λ_=>Uj ?bU*A ?bU 0*?BJ) ?bU ?H,?N];rw[Zx,←same,←h 0 ?c]
   grind
def cV[?uT](hp:p+1<n)[?o6]:?a86 (Bz ?kW ?bU v) ?bU:=by
 have ne:p≠p+1:=O9m
 have z:?a5M ?bU:=λw=>EY hp ?XQ
 have e0:=z λc=>1*u c+1*v c;rw[?a5C (Bz A p _) hp,?aZ,?aZ,?a5C (Bz A ?bU u) ?c,?a5C (Bz A ?bU v) ?c]at e0;ext a1P
def eX:∀(d:Nat) [?uT],p+d+1<n->(?a63 (p+d+1))->?qK
 | 0,n,p,A,hp,h=>EY hp h
 | d+1,n,p,A,hp,h=>by
   have e:A=Bz (Bz A (p+d+1) (A (p+d+1))) (p+d+1+1) (A (p+d+1+1)):=?N4
   rw[e,cV ?c];rw[eX d (p:=p) ?c ?dF]
   . rfl
   . rw[?jZ,?jZ,?jZ,Bp];exact ?sO
def Gn[?e7]{A:Mat}[?e9](hq:q<n)(hne:?gW)(h:?a63 q):?qK:=by
 rcases qh3 p q with z | z
 . exact eX (q-p-1) (p:=p) O9m (by rw[show p+(q-p-1)+1=q by omega];exact h)
 . exact eX (p-q-1) (p:=q) O9m (by rw[show q+(p-q-1)+1=p by omega];exact λc hc=>(?sO).symm)
def XH[?e7](A:Mat)[?e9](hq:q<n)(hne:?gW)(k:Int):?a3F ?S3=?cY:=by
 have:=Fs A ?b8 ?e3 1 k hp;rw[Ik,Gn (A:=?P3) hp hq hne λc _=>by rw[Bp,Bw (?JS)]]at this;rw[←show(λc=>1*?c1+k*A q c)=?S3 from ?aH λc=>?Z9,this];omega
def IB[?e7]{A:Mat}[?b3][?o6]:?a86 (?VE) q:=by
 ext a0U
 have e0:=z λc=>1*u c+1*v c;rw[?a5C (Bz A p _) hq,?aZ,?aZ,?a5C (Bz A q u) hp,?a5C (Bz A q v) hp]at e0;ext a1P
def xH{n p:Nat}(A:Mat)[?e9]:?a3F ?UZ=- ?cY:=by
 have:=Fs A ?b8 ?b8 ?G 0 hp;rw[Ik]at this;rw[show(?UZ)=λc=>-1*?c1+0*?c1 from ?aH λc=>?yY,this];omega
def PF[?e7](A:Mat)[?b3][?fE](h:a*d-b*c=1) :
 ?a7S (Bz (Bz A p λk=>a*A p k+b*A q k) q λk=>c*A p k+d*A q k)=?cY:=by
 ext a0U
 have e:?a7S (Bz (?ZT) q ?e3)=?cY:=?N4
 have e2:=IB (A:=A) hp hq ne ?b8 ?e3;rw[Fs _ ?b8 ?e3 c d hq,?aZ,?aZ,?a75 ?b8,?a75 ?e3];rw[←?aZ,←?aZ,←?aZ,←?aZ,z ?b8,z ?e3];rw[e]at e2 ⊢;have e3:?a7S (Bz (?P3) q ?b8)=- ?cY:=O9m
 rw[e3]
 grind
abbrev prodN[?K]:?k
 | 0=>1
 | n+1=>?r8
def Xx[?K]:∀n,?CO=f 0*?Y2
 | 0=>by simp[prodN]
 | n+1=>by
   show ?CO*f ?H=f 0*(?Y2*f ?H);rw[Xx f n,qe0]
def Y9:∀{n:Nat}{A:Mat},(∀r c,r<n->c<r->?i7=0)->?cY=?a4Z A n
 | 0,_,_=>rfl
 | n+1,A,h=>by
   show ?lV=_;rw[?a9 (j:=0) ?c λk hk hne=>by rw[h k 0 hk ?c];simp,Xx]
   rw[Y9 (n:=n) (A:=Hf A 0) λr c hr hc=>by
    show ?a41 0=0;ext d7;exact h _ _ ?c ?c]
   show 1*A 0 0*?n (λj=>A (if j<0 then j else j+1) ?P) n=_;rw[qd8];rfl
abbrev eW:?w
 | 0=>1
 | n+1=>?G9
def Qb[?D]{M:Nat}:∀{n:Nat},(∀k,k<n->?AR<=M)->?XD<=n*M
 | 0,_=>?TC
 | n+1,h=>by
   have a:=Qb (n:=n) ?gB;have b:=?rU;have c:=qf3 (?c8) (f n);show ?KR<=?H*M;rw[qf7,qf5];omega
def TV:∀{n:Nat}{A:Mat}{B:Nat},(∀r c,r<n->c<n->?J2<=B)->?U0<=?M9
 | 0,_,_,_=>by simp[det,eW]
 | n+1,A,B,h=>by
   show(?rN).natAbs<=?G9*B ^ ?H
   have:?OS<=?H*(B*(?M9)):=by
    apply Qb ?q2;rw[qb2,qb2,Y3,qf5];exact qf4 (h i 0 hi O9m) (TV λr c hr hc=>?Q3)
   apply qa5 ?I ?WW;rw[qh2]
   grind
structure Jp(i:Nat)(R:Mat)[?u]:Prop where
 inc:?a5N i
 zero:?L9
 pos:?ZJ
def Du.s0[?o3][?j][?o5]:Jp r R t:=#[?cW,?aU,?a0]
def Jp.low[?o8][?j][?oB]{j l:Nat}(hj:j<i)(hl:l<j):?jB=0:=?aU j _ hj (?cW l j hl hj)
def Vn:∀[?uT],p<n->(∀c,c<n->?c1=0)->?qK:=λ{n p A} hp h=>by
 have:=Fs A ?b8 ?b8 0 0 hp;rw[show(λc=>0*?c1+0*?c1)=?U1 from ?aH λc=>?yY]at this
 rw[show ?cY=?a3F ?cT from Dt λr c hr hc=>by
  unfold Bz;split
  . rename_i e;rw[e];exact ?sO
  . rfl,this]
 omega
def Dd[?D]:∀{n:Nat},(?AZ)->0<?gC
 | 0,_=>?YT
 | n+1,h=>?sP (Dd ?gB) (?rU)
abbrev pb(R:Mat)[?u](k:Nat):?k
 | 0=>1
 | m+1=>?qS
abbrev S7(R:Mat)[?u](k:Nat):Nat->(?k)
 | 0=>R k
 | m+1=>λc=>?hY*?a43 m c+?sS*R ?g7 c
section
variable[?o8][?j][?oB]
include h
def RL{k:Nat}:∀{m:Nat},?jT->0<?kT
 | 0,_=>?YT
 | m+1,hm=>?sP (?a0 _ O9m) (RL O9m)
def FH{k l:Nat}(hl:l<k):∀{m:Nat},?jT->?yP=0
 | 0,hm=>?eU hm hl
 | m+1,hm=>by
   ext a0V;rw[FH hl ?c,?IT];simp
def iH{k:Nat}:∀{m:Nat},?jT->?OG=?kT*?fQ
 | 0,_=>by show ?fQ=1*?fQ;omega
 | m+1,hm=>by
   show ?hY*?OG+?sS*R ?g7 ?a6=?qS*?fQ;rw[iH ?c,?eU (j:=?m5) (l:=k) ?c ?c,qe0];simp
def fH{k:Nat}:∀{m l:Nat},?jT->k<l->l<=k+m->?yP=0
 | 0,l,_,h1,h2=>O9m
 | m+1,l,hm,h1,h2=>by
   ext a0V;by_cases e:l=?m5
   . subst e;rw[qe8,qo4];omega
   . rw[fH ?c h1 ?c,?IT];simp
def uE{W:Nat}{k:Nat}:∀{m:Nat},?jT->In W i R (S7 R t k m)
 | 0,hm=>?O hm
 | m+1,hm=>(uE O9m).mix ?HN _ _
def MP{k:Nat}(s:?w):∀{m:Nat},?jT->?a82 (Bz ?fT k ?K1)=?kT*?a82 ?fT
 | 0,hm=>by
   show ?a82 (Bz ?fT k (?fT k))=1*_;rw[Ik];omega
 | m+1,hm=>by
   show ?a82 (Bz ?fT k λc=>?hY*?L4+?sS*?VP)=_;rw[Fs ?fT (?K1) (?IY) _ _ ?c,MP s ?c];rw[Gn (p:=k) (q:=?m5) (A:=Bz ?fT k ?IY) ?c ?c ?c λc _=>by rw[Bp,?jZ]];show _=?qS*_;rw[qe0];omega
universe e9
def skip_prod[?D]{k:Nat}:∀(n:Nat),k<=n->?n (λl=>?a3H f) n=?h0*?FF
 | 0,h=>by
   have:k=0:=O9m
   subst this;simp[prodN]
 | n+1,h=>by
   by_cases e:k=n+1
   . subst e;rw[show n+1-?H=0 by omega];show ?n _ ?H=?CO*1
     have:∀m,m<=n+1->?n (λl=>f (if l<n+1 then l else l+1)) m=?cB:=by
      intro m
      induction m with
      | zero=>intro _;rfl
      | succ m ih =>
        intro hm;show ?z5*f (if m<n+1 then m else m+1)=?cB*f m;rw[?l5,?N]
     rw[?I _ ?h];omega
   . show ?n _ n*f (if n<k then n else n+1)=_;rw[?RU n ?c,?q,show n+1-k=?jQ+1 by omega];show _=?h0*(?FF*f (k+1+?jQ));rw[show k+1+?jQ=n+1 by omega,qe0]
def dW(R:Mat)[?u](k:Nat):∀m,?kT=?n (λl=>R (k+1+l) (t (k+1+l))) m
 | 0=>rfl
 | m+1=>by
   show ?qS=?z5*?hY;rw[dW R t k m,qe8]
abbrev cA[?u](k c:Nat):?w
 | 0=>c
 | l+1=>?a3H t
def Al0[?o8][?j][?oB]{k c:Nat}(hk:k<i){D:Nat}(hD:?a48 ?t1 D):(?a43 ?z3 c).natAbs<=D:=by
 have hm:k+?z3<i:=O9m
 have e1:=MP h (k:=k) (cA t k c) hm
 have hu0:∀l,l<i->l≠k->?a43 ?z3 ?v=0:=λl hl hne=>by
  rcases qh3 l k with z | z
  . exact FH h z hm
  . exact fH h hm O9m O9m
 obtain⟨n,rfl⟩:∃n,i=n+1:=?TT
 have e2:det ?H (Bz (?t1) k λl=>?a43 (n+1-1-k) (cA t k c l))=Uj k*?a43 (n+1-1-k) c*?n (λl=>R (if l<k then l else l+1) (?a3H t)) n:=by
  show ?f (λj=>Uj j*Bz _ k _ j 0*?a7S (Hf (Bz _ k _) j)) ?H=_;rw[?a9 (j:=k) hk ?CT]
  . rw[Bp,Ju]
    congr 1
    apply Y9 λr l hr hl=>?_;show R (if r<k then r else r+1) (?a3H t)=0;apply ?eU ?bQ ?_;split<;>split<;>omega
  . rw[U7 hne,Vn (p:=if k<j then k else k-1) ?bQ ?tE]
    . simp
    . rw[Bp];show S7 R t k (n+1-1-k) (?a3H t)=0;exact hu0 _ ?bQ ?bQ
 rw[e1]at e2;rw[?RU (f:=?oO) n ?c,←dW,?NP]at e2;rw[?NP];have pp:=RL h (k:=k) (m:=n-k) O9m;have qp:0<?Y3:=Dd λj hj=>?mB;have e3:=?wB ?N7 e2;rw[qb2,qb2,qb2,qb2,Y3,qf5]at e3;have p1:0<?h8:=O9m
 have q1:1<=?Z5:=O9m
 have:?h8*?xX<=?h8*D:=by
  calc ?h8*?xX<=?xX*(?Z5*?h8):=by
        rw[?P2 ?h8];exact qf0 _ (qm4 _ q1)
   _=?h8*(det ?H ?t1).natAbs:=e3.symm
   _<=_:=qf0 _ hD
 exact qs7 ?I p1
def CM[?o8][?j][?oB]:?a82 ?nB=?nO:=Y9 λr c hr hc=>?eU hr hc
def a9[?D]:∀{n j:Nat},(?AZ)->j<n->f j<=?gC
 | n+1,j,h,hj=>by
   have p:=Dd (n:=n) ?gB;have q:=?rU;show f j<=?r8;by_cases e:j=n
   . subst e;have:1*f j<=?n f j*f j:=?sE;omega
   . have ih:=a9 (n:=n) (j:=j) (?gB) O9m;have:?gC*1<=?r8:=?HG;omega
def xE[?o8][?j][?oB]{D:Nat}(hD:?a48 ?DB D){j:Nat}(hj:j<i):?aF<=D:=by
 rw[CM h]at hD;have a:=a9 (f:=?oO) (λk hk=>?y5) hj;have b:=Dd (f:=?oO) (n:=i) (λk hk=>?y5);omega
def Jp.none{W i:Nat}{R:Mat}[?j][?a1X](h0:∀j,j<i->?hA=0):∀c,c<W->v c=0:=by
 let ?a1:=hv
 have x0:∀m,m<=i->∀j,j<m->x j=0:=by
  intro m
  induction m with
  | zero=>intro _ j hj;omega
  | succ m ih =>
    intro hm j hj;by_cases e:j<m
    . exact ih O9m j e
    have ej:j=m:=O9m
    subst ej;have e1:=hx ?L (?NO);rw[h0 j ?c,?a9 (j:=j) ?c ?A3]at e1
    . rcases ?tI e1.symm with z | z
      . exact z
      . have:=?mB;omega
    . by_cases e2:k<j
      . rw[ih ?c k e2];simp
      . rw[?eU hk ?c];simp
 intro c hc;rw[?f0];exact ?U λk hk=>by rw[x0 i ?h k hk];simp
def In.sum{W i:Nat}{R:Mat}{a:?k}{U:Mat}:∀{m:Nat},(∀j,j<m->In W i R (U j))->In W i R (λc=>?zV)
 | 0,_=>?r1 W i R
 | m+1,h=>by
   have:=(?CX (a:=a) (U:=U) (m:=m) (?a66 h)).mix (h m O9m) 1 (a m)
   exact this.congr λc _=>by
    show 1*?zV+?lC=?zV+?lC;omega
def Ty[?K]:∀(n k:Nat),k<n->?gC=?h0*(?AN*f k)
 | n+1,k,h=>by
   by_cases e:k=n
   . subst e;rw[show k+1-1-k=0 by omega];show ?h0*f k=?h0*(1*f k);rw[qd8]
   . show ?r8=_;rw[Ty f n k ?c,show n+1-1-k=?lL+1 by omega];show _=?h0*(?n _ ?lL*f (k+1+?lL)*f k);rw[show k+1+?lL=n by omega]
     grind
def A03[?D]:∀{n k:Nat},(∀l,l<n->0<f l)->k<n->?h0*f k<=?gC:=λ{n k} h hk=>by
 rw[Ty f n k hk];have a:=Dd (n:=k) λl hl=>h l O9m;have b:0<?AN:=Dd λl hl=>?rS;have c:=h k hk;have d:1*f k<=?AN*f k:=?sE;rw[qd8]at d;exact qm3 d O9m
def VL{W i:Nat}{R:Mat}[?j][?a1X]{κ D c:Nat}(hc:c<W)(hκ:∀j,j<i->?R8<=κ*?eD)
 (hD:∀k,k<i->?a48 ?t1 D):(v c).natAbs<=i*?B8:=by
 have hp:∀l,l<i->0<?lD l:=λl hl=>?a0 l hl;have EP:=Dd (n:=i) hp
 have key:?nO*v c=?y0:=by
  have hin:In W i R (λc=>?SY) :=
   hv.mix (?CX (a:=λj=>?hA*?lU) (U:=λj=>S7 R t j ?zB) λj hj=>uE h O9m) _ _
  have:=h.none ht hin (λm hm=>?_) c hc
  . show _=_;have t:?SY=0:=this;omega
  . show ?nO*v (t m)+?G*?f (λj=>(?hA*?lU)*?UF) i=0;rw[?a9 (j:=m) hm ?CT]
    . rw[iH h ?c,dW,Ty ?lD i m hm]
      grind
    . have:?UF=0:=by
       rcases qh3 m j with z | z
       . exact FH h z O9m
       . exact fH h O9m O9m O9m
      ext cM
 have e:=?wB ?N7 key;rw[qb2]at e
 have le:(?y0).natAbs<=i*(?AU*?B8):=by
  apply Qb ?a5;rw[qb2,qb2];have a1:=?a78 hκ;have a2:=Al0 h hj (?a78 hD);have a3:=A03 hp hj;have a4:=Dd (n:=j) λl hl=>hp l O9m;have a5:=?a78 hp
  have a6:?pJ*?eD<=?AU:=by
   rw[←qb2];have:0<?lU*?aF:=?sP a4 a5;omega
  calc ?R8*?pJ*(?IN).natAbs
   ≤ κ*?eD*?pJ*D:=qf4 (qc0 _ a1) a2
   _=?pJ*?eD*?B8:=?E
   _<=_:=qc0 _ a6
 rw[←e]at le;have E1:0<?AU:=O9m
 apply qs7 (qa5 le ?WW) E1
 grind
def In.trans{W n m:Nat}{R R':Mat}{v:?k}(hv:In W n R v)(h:∀j,j<n->In W m R' ?hZ):In W m R' v:=by
 let ?a1:=hv;exact(?CX (a:=x) (U:=R) h).congr λc hc=>(?f0).symm
abbrev qI(W n:Nat)(R R':Mat):Prop:=(∀j,j<n->In W n R (R' j))/\(∀j,j<n->In W n R' ?hZ)
def qI.refl(W n:Nat)(R:Mat):?a5Q R:=#[?YA,?YA]
def qI.trans{W n:Nat}{R S T:Mat}(h1:?a5Q S)(h2:qI W n S T):?a5Q T:=#[λj hj=>(h2.1 j hj).trans h1.1,λj hj=>(h1.2 j hj).trans h2.2]
abbrev F2(n:Nat)(R R':Mat):Prop:=∀s:?w,(det n (?a64 R')).natAbs=(?a7S ?BX).natAbs
def F2.refl(n:Nat)(R:Mat):F2 n R R:=?HW
def F2.trans{n:Nat}{R S T:Mat}(h1:F2 n R S)(h2:F2 n S T):F2 n R T:=λs=>(h2 s).trans (h1 s)
def Nr(R:Mat)[?EO](s:?w):(λr l=>Bz R p u r ?bA)=Bz ?s7 p (λl=>u ?bA):=by
 funext r l
 unfold Bz;split<;>rfl
abbrev addR[?hN](k:Int):Mat:=Bz R p ?VU
def Cl[?hN](k:Int)(c:Nat):?r R p q k p c=?RL:=Bp ..
def Dn[?uQ]{k:Int}(h:?gM)(c:Nat):?r R p q k r c=?bO:=Bw h c
def XT[?e7](R:Mat)[?b3](k:Int):F2 n R ?hF:=λs=>by
 unfold addR;rw[Nr];have:=XH ?s7 hp hq ne k;rw[show(λl=>1*R p ?bA+?G8)=λl=>R p ?bA+?G8 from ?aH λl=>?Z9,this]
def xT{W n p q:Nat}(R:Mat)[?b3](k:Int):?a5Q ?hF:=by
 ext u9
 . ext kD
   . subst e;exact(?A1 ?VR 1 k).congr λc _=>(Cl R j q k c).symm
   . exact ?n2 λc _=>(?AC).symm
 . ext kD
   . subst e;apply((?a59 ?V4).mix (?O (R:=?V4) hq) 1 (-k)).congr ?GY;rw[Cl,Dn ?g4];show 1*(1*?eO+k*R q c)+-k*R q c=?eO;rw[qo4];omega
   . exact(?a59 ?SO).congr λc _=>?AC
abbrev Hw(R:Mat)(p:Nat):Mat:=Bz R p λc=>- ?d1
def wQ{n p:Nat}(R:Mat)[?e9]:F2 n R ?iY:=λs=>by
 unfold Hw;rw[Nr,xH ?s7 hp,qc7]
def WO{W n p:Nat}(R:Mat)[?e9]:?a5Q ?iY:=by
 ext u9
 . ext kD
   . subst e;exact(?A1 (?mF) ?G 0).congr ?a03
   . exact ?n2 λc _=>(Bw e c).symm
 . ext kD
   . subst e;exact((?GQ).mix (?GQ) ?G 0).congr ?a03
   . exact(?O (R:=Hw R p) hj).congr λc _=>Bw e c
abbrev blendR[?hN][?fE]:Mat:=Bz (Bz R p ?LZ) q ?OV
def Hu{R:Mat}{p q:Nat}(ne:?gW)[?fE](k:Nat):?a5X p=?RO:=by unfold blendR;rw[Bw ne,Bp]
def Jy[?hN][?fE](k:Nat):?a5X q=?GS:=by unfold blendR;rw[Bp]
def Ej[?uQ](h1:?gM)(h2:r≠q)[?fE](k:Nat):?a5X r=R r k:=by unfold blendR;rw[Bw h2,Bw h1]
def PY[?e7](R:Mat)[?b3][?uF]:F2 n R ?nD:=λs=>by
 unfold blendR;rw[Nr,Nr];rw[PF ?s7 hp hq ne a b c d h]
def pY{W n p q:Nat}(R:Mat)[?b3][?uF]:?a5Q ?nD:=by
 ext u9
 . ext kD
   . subst e;exact(?A1 ?VR a b).congr λk _=>(?U6).symm
   . by_cases e2:j=q
     . subst e2;exact((?O hp).mix (?mF) c d).congr λk _=>(Jy R p j a b c d k).symm
     . exact ?n2 λk _=>(?XO).symm
 . ext kD
   . subst e;apply((?a59 ?HB).mix (?O (R:=?HB) hq) d (-b)).congr ?yN;ext a1W
     grind
   . by_cases e2:j=q
     . subst e2;apply((?O (R:=?T0) hp).mix (?a59 ?T0) (-c) a).congr ?yN;ext a1W
       grind
     . exact(?a59 ?TL).congr λk _=>?XO
abbrev moveR(R:Mat)(i s:Nat):Mat:=λr c=>if r<s then ?bO else if r=s then ?h3 else if ?c3 then R ?i0 c else ?bO
def HB{n:Nat}:∀(d:Nat) (R:Mat) {i s:Nat},i<n->i=s+d->F2 n R ?jP
 | 0,R,i,s,hi,e=>by
   have:?nM=R:=by
    funext r c
    ext cO;by_cases e1:r<s
    . rw[?iV]
    . rw[?aX];by_cases e2:r=s
      . rw[?i5,e2,?RE]
      . ext DY
   rw[this];exact F2.refl n R
 | d+1,R,i,s,hi,e=>by
   obtain⟨j,rfl⟩:∃j,i=j+1:=?TT
   have h1:F2 n R (?a4S R):=λt=>by
    rw[Nr,Nr,cV ?c,qc7]
    rw[show Bz (Bz ?nB j ?F8) ?P (λl=>R ?P ?v)=?DB from by
     have:=Ik ?nB j;rw[show(?F8)=?nB j from rfl,this];exact Ik ?nB ?P]
   have h2:=HB (n:=n) d (?a4S R) (i:=j) (s:=s) O9m O9m
   have e3:?R (?a4S R) j s=?R R ?P s:=by
    funext r c
    ext cO;by_cases e1:r<s
    . rw[?iV,?iV,?jZ,?jZ]
    . rw[?aX,?aX];by_cases e2:r=s
      . rw[?i5,?i5,Bw (show j≠j+1 by omega),Bp]
      . rw[?g6,?g6];by_cases e4:?aO
        . rw[?o e4,?o (show r<=j+1 by omega),Bw (show r-1≠j+1 by omega),Bw (show r-1≠j by omega)]
        . rw[?x6];by_cases e5:r=j+1
          . subst e5;rw[Bp,?N];rfl
          . rw[?g (show ¬r<=j+1 by omega),Bw e5,Bw (?a3C r j)]
   rw[e3]at h2;exact ?O0 h2
def SJ{W n:Nat}(R:Mat){i s:Nat}[?hM]:?a5Q ?jP:=by
 ext u9
 . by_cases e1:j<s
   . exact ?n2 ?ZY
   . by_cases e2:j=s
     . exact(?O hi).congr λc _=>by ext cO;rw[?aX,?i5]
     . by_cases e3:?c6
       . exact(?O (R:=R) (j:=j-1) O9m).congr λc _=>by ext cO;rw[?aX,?g6,?xY]
       . exact ?n2 λc _=>by ext cO;rw[?aX,?g6,?yT]
 . by_cases e1:j<s
   . exact ?WQ ?ZY
   . by_cases e2:j=i
     . exact(?O (R:=?nM) (j:=s) O9m).congr λc _=>by ext cO;rw[?q,?s,e2]
     . by_cases e3:j<i
       . exact(?O (R:=?nM) (j:=j+1) O9m).congr λc _=>by ext cO;rw[?q,?q,?N];rfl
       . exact ?WQ λc _=>by ext cO;ext DL
def Rq{f g:?k}[?e7][?b3](h:∀k,k<n->k≠p->k≠q->f k=g k)(e:f p+f q=g p+g q):?c8=?lY:=by
 have z:?JB=(f p-g p)+(f q-g q):=by
  have e1:?JB=?f (λk=>(if k=p then 1 else 0)*(f p-g p)+(if k=q then 1 else 0)*(f q-g q)) n:=by
   apply ?w0;by_cases e1:k=p
   . subst e1;rw[?s,?n5];omega
   . rw[?aX];by_cases e2:k=q
     . subst e2;rw[?s];omega
     . rw[?g6,h k hk e1 e2];omega
  rw[e1,Cm,Dv (λ_=>f p-g p) p n,?o hp,Dv (λ_=>f q-g q) q n,?o hq]
 rw[Cm,Ay]at z;omega
abbrev pT(n:Nat)(B R:Mat)(a b:Nat):Int:=?IO
def jM[?e7](B R:Mat)[?b3](k:Int)(a b:Nat):?a6J (?r B q p (-k)) ?hF:=by
 apply Rq hp hq ne (λj _ h1 h2=>by rw[Dn h2,Dn h1]) ?_;rw[Dn (r:=p) (p:=q) ne,Cl R p q k,Cl B q p (-k),Dn ?g4]
 grind
def Ac7{n p:Nat}(B R:Mat)(a b:Nat):?a6J (Hw B p) ?iY:=by
 apply ?BZ;by_cases e:k=p
 . subst e;unfold Hw;rw[Bp,Bp,Int.neg_mul_neg]
 . unfold Hw;rw[?gG,?gG]
def gQ[?e7](B R:Mat)[?b3][?uF](x y:Nat):pT n (?a7Q a) ?nD x y=pT n B R x y:=by
 apply Rq hp hq ne (λj _ h1 h2=>by rw[?U9,?U9]) ?_;rw[?dG,?dG,Jy,Jy];have e1:?TY=(a*d-b*c)*(?TY):=?zQ
 have e2:?NB=(a*d-b*c)*(?NB):=?zQ
 grind
def BU[?K]:∀(d:Nat) {n i s:Nat},i<n->i=s+d->?f (λr=>if r<s then f r else if r=s then f i else if ?c3 then f ?i0 else f r) n=?c8
 | 0,n,i,s,hi,e=>Ah λr _=>by
   by_cases e1:r<s
   . rw[?iV]
   . rw[?aX];by_cases e2:r=s
     . rw[?i5,e2,?RE]
     . ext DY
 | d+1,n,i,s,hi,e=>by
   rw[←BU f d (n:=n) (i:=i) (s:=s+1) hi ?c];apply Rq (p:=s) (q:=s+1) O9m O9m O9m (λr _ h1 h2=>?_) ?_
   . by_cases e1:r<s
     . rw[?iV,?N]
     . rw[?aX,?gN,?g (show ¬r<s+1 by omega),?eI]
   . rw[?q,?s,?q,?q,?N,?N,?q,?s];show f i+f (s+1-1)=f s+f i;rw[show s+1-1=s by omega];omega
def WG{n:Nat}(B R:Mat){i s:Nat}[?hM](a b:Nat):?a6J (?R B i s) ?jP:=by
 show ?f (λk=>?R B i s k a*?R R i s k b) n=?IO;rw[←BU (λk=>B k a*R k b) (i-s) (n:=n) (i:=i) (s:=s) hi ?c];apply Ah λr _=>?_;ext cO;split
 . rfl
 . split
   . rfl
   . split<;>rfl
abbrev pD[?b5][?W](i j:Nat):Int:=?f (λc=>?w8*B j c) n
abbrev F6[?b5][?W]:Prop:=∀i j,i<n->j<n->?VA=?rX
abbrev dot[?b5][?o6]:Int:=?f (λc=>u ?tJ*v c) n
def Eh[?b5](u v x:?k)(a b:Int):?a7D ?oF x=a*?a7D u x+b*?a7D v x:=by
 unfold dot;ext k4;exact Ah λc _=>by rw[qo5,qe0,qe0]
def Hj[?b5](u x y:?k)(a b:Int):?a7D u (λc=>a*x c+b*y c)=a*?a7D u x+b*?a7D u y:=by
 unfold dot;ext k4;exact Ah λc _=>?E
def c7[?b5][?W](i j:Nat):?VA=?NA:=rfl
def Oe[?hN](k:Int):?r R p q k p=?VU:=?aH λc=>Cl ..
def addR_row_ne[?uQ]{k:Int}(h:?gM):?r R p q k r=R r:=?aH λc=>Dn h c
def blend_row_p{R:Mat}{p q:Nat}(ne:?gW)[?fE]:?a6D ?A p=?LZ:=?aH λk=>?U6
def blend_row_q[?hN][?fE]:?a6D ?A q=?OV:=?aH λk=>?a6D Jy k
def blend_row_ne[?uQ](h1:?gM)(h2:r≠q)[?fE]:?a6D ?A r=R r:=?aH λk=>Ej h1 h2 a b c d k
def F6.add{n w p q:Nat}[?nX][?b3](k:Int):?a6B ?hF (?r B q p (-k)):=λi j hi hj=>by
 ext DJ
 rw[c7];by_cases e1:i=p
 . subst e1;rw[Oe];by_cases e2:j=q
   . subst e2;rw[Oe,Hj,Eh,Eh,?bD,?LU,?xO,?H4];rw[?n5,?s,?s,?g ?g4];omega
   . rw[?gL e2,Eh,?bD,?WM,show ?a3E q j from ?rH];omega
 . rw[?gL e1];by_cases e2:j=q
   . subst e2;rw[Oe,Hj,?bD,?M6,?IM];omega
   . rw[?gL e2];exact ?bD
def F6.neg{n w p:Nat}[?nX][?e9]:?a6B ?iY (Hw B p):=λi j hi hj=>by
 ext DJ
 have s1:∀(R:Mat),Hw R p p=λc=>-1*?d1+0*?d1:=λR=>?aH λc=>?FP
 have s2:∀(R:Mat) {r:Nat},?gM->Hw R p r=R r:=λR r hr=>?aH λc=>Bw hr c;rw[c7];by_cases e1:i=p
 . subst e1;by_cases e2:j=i
   . subst e2;rw[s1,s1,Hj,Eh,?AO];rw[?s];omega
   . rw[s1,s2 B e2,Eh,?bD,?rH];omega
 . by_cases e2:j=p
   . subst e2;rw[s1,s2 R e1,Hj,?bD,?aX];omega
   . rw[s2 R e1,s2 B e2];exact ?bD
def F6.blend{n w p q:Nat}[?nX][?b3]{a b c d:Int}(h1:a*d-b*c=1):?a6B ?nD (?a7Q a):=λi j hi hj=>by
 ext DJ
 have ne':q≠p:=?w5;rw[c7];by_cases e1:i=p
 . subst e1;rw[?lX];by_cases e2:j=i
   . subst e2;rw[?lX,Hj,Eh,Eh,?AO,D q j hq hi,D j q hi hq,D q q hq hq]
     ext u0
     grind
   . by_cases e3:j=q
     . subst e3;rw[blend_row_q,Hj,Eh,Eh,?xO,D j i hq hi,D i j hi hq,D j j hq hq]
       ext u0
       grind
     . rw[?AV,Eh,?bD,?WM,show ?t9 from ?rH,show ?a3E q j from ?a7V e3];omega
 . by_cases e4:i=q
   . subst e4;rw[blend_row_q];by_cases e2:j=p
     . subst e2;rw[?lX,Hj,Eh,Eh,?LU,?bD,?H4,?xO]
       ext u0
       grind
     . by_cases e3:j=i
       . subst e3;rw[blend_row_q,Hj,Eh,Eh,D p p hp hp,D j p hi hp,D p j hp hi,?AO]
         ext u0
         grind
       . rw[?AV,Eh,D p j hp hj,?bD,show ?a3E p j from ?rH,show ?t9 from ?a7V e3];omega
   . rw[?v4 e1 e4];by_cases e2:j=p
     . subst e2;rw[?lX,Hj,?bD,D i q hi hq,show ?t9 from ?aX,show ?a3E i q from ?x6];omega
     . by_cases e3:j=q
       . subst e3;rw[blend_row_q,Hj,?M6,?bD,?IM,show ?t9 from ?x6];omega
       . rw[?AV];exact ?bD
abbrev mvI(i s r:Nat):Nat:=if r<s then r else if r=s then i else if ?c3 then r-1 else r
def move_row(R:Mat)(i s r:Nat):?R R i s r=R (?A8):=by
 funext c
 unfold moveR mvI;split
 . rfl
 . split
   . rfl
   . split<;>rfl
def F6.move{n w i s:Nat}[?nX][?hM]:?a6B ?jP (?R B i s):=λx y hx hy=>by
 rw[c7,move_row,move_row];have l:∀r,r<n->?A8<n:=λr hr=>?B0
 have:=h _ _ (l x hx) (l y hy);rw[c7]at this;rw[this]
 have inj:(mvI i s x=mvI i s y)↔x=y:=by
  constructor
  . intro e;unfold mvI at e;by_cases a1:x<s<;>by_cases a2:x=s<;>by_cases a3:x<=i<;>by_cases b1:y<s<;>by_cases b2:y=s<;>by_cases b3:y<=i<;>simp only[a1,a2,a3,b1,b2,b3,if_true,if_false]at e<;>first | omega | (subst_vars;simp_all;try omega)
  . intro e;rw[e]
 by_cases e:x=y
 . rw[?bK,?o (inj.mpr e)]
 . rw[?bN,?g λz=>e (inj.mp z)]
structure Good(n W w lo:Nat)(R B R' B':Mat):Prop where
 eqv:∀m,lo<=m->qI W m R R'
 det:∀m,lo<=m->F2 m R R'
 pt:∀a b,?a6J B' R'
 dual:?YM->?a6B R' B'
 rest:∀r c,lo<=r->?V1
 restB:∀r c,lo<=r->B' r c=B r c
def Good.refl(n W w lo:Nat)[?W]:?a3J R B:=#[λm _=>qI.refl W m R,λm _=>F2.refl m R,?jM,id,?jG,?jG]
def Good.trans[?uZ]{R B R' B' S C:Mat}(h1:?vV)(h2:?aV n W w lo R' B' S C):?a3J S C :=
 #[?a7A h1.eqv h2.eqv,?a7A h1.det h2.det,λa b=>(h2.pt a b).trans (h1.pt a b),λd=>h2.dual (h1.dual d),?a65 h2.rest h1.rest,?a65 h2.restB h1.restB]
def Good.mono{n W w lo lo':Nat}[?uV](h:?vV)(hl:lo<=lo'):?aV n W w lo' R B R' B':=#[?a7B h.eqv m,?a7B h.det m,h.pt,h.dual,λr c hr=>h.rest r c O9m,λr c hr=>h.restB r c O9m]
def Good.add{n W w lo p q:Nat}[?W][?a2T](k:Int):?a3J ?hF (?r B q p (-k)) :=
 #[?a42 xT k,?a42 XT k,λa b=>jM B R O9m O9m ne k a b,λd=>d.add O9m O9m ne k,?K8,?K8]
def Good.neg{n W w lo p:Nat}[?W](hp:p<lo)(hn:?s6):?a3J ?iY (Hw B p) :=
 #[?a7B WO R,?a7B wQ R,λa b=>Ac7 B R a b,λd=>d.neg O9m,?NE,?NE]
def Good.blend{n W w lo p q:Nat}[?W][?a2T][?uF]:?a3J ?nD (?a7Q a) :=
 #[?a42 pY h,?a42 PY h,λx y=>gQ B R O9m O9m ne h x y,λe=>e.blend O9m O9m ne h,?WI,?WI]
def Good.move{n W w lo i s:Nat}[?W](hi:i<lo)(hs:s<=i)(hn:?s6):?a3J ?jP (?R B i s) :=
 #[λm hm=>SJ R O9m hs,λm hm=>HB (i-s) R O9m O9m,λa b=>WG B R O9m hs a b,λd=>d.move O9m hs,λr c hr=>by
  ext k3;ext DL,λr c hr=>by
  ext k3;ext DL]
def F6.row{n w i:Nat}[?nX][?dB]:∃c,c<n/\?w8≠0:=by
 apply qg7 ?pP;have e:=h i i hi hi;rw[?s]at e;unfold pD at e;rw[?U ?dF]at e
 . cases e
 . have:?w8=0:=qg7 λy=>z #[c,hc,y];ext cM
def MK{x h:Int}{K:Nat}(hh:0<h)(hx:x.natAbs<=K*h.natAbs):?UD<=K:=by
 have e:(h.natAbs:Int)=h:=O9m
 have hx':(x.natAbs:Int)<=?pT*h:=by rw[←e];exact_mod_cast hx
 have u1:x / h<=?pT:=by
  have:x<=?pT*h:=O9m
  exact Int.ediv_le_of_le_mul hh ?I
 have u2:-?pT<=x / h:=by
  apply(Int.le_ediv_iff_mul_le hh).mpr ?_;rw[qo4];omega
 omega
structure Part(R:Mat)[?u](f m:Nat):Prop where
 inc:∀j k,?fY->j<k->k<m->?r5
 zero:∀j c,?fY->j<m->?vN
 pos:∀j,?fY->j<m->?kO
 red:∀k j,f<=k->k<j->j<m->?vB
structure QH(n W w lo:Nat)[?W][?u](p f m j μ:Nat)(R' B':Mat):Prop where
 good:?vV
 same:?Z1
 left:∀c,(∀l,f<=l->l<m->c<t l)->?mM=?d1
 red:∀l,f<=l->l<j->?HZ
 rel:∀l,j<=l->l<m->?a84 ?hC ?t6
 ins:∀W',∃v:?k,In W' lo R v/\∀c,?mM=?d1+v c
def QH.start[?uZ][?dA][?j]{p f m μ:Nat}[?a1U]:QH n W w lo R B t p f m f μ R B :=
 #[?s8,?jG,?jM,λl h1 h2=>O9m,λl h1 h2=>by rw[qh8,qx9,qf5];exact h l h1 h2,λW'=>#[?cT,?r1 W' lo R,λc=>by show ?d1=?d1+0;omega]]
def DG[?hN]:?r R p q 0=R:=by
 funext r c
 ext kE
 . subst e;rw[Cl];omega
 . exact ?AC
def QH.step[?uZ][?uV][?j]{p f m j μ:Nat}(h:QH n W w lo R B t p f m j μ R' B')(P:?oE)(hf:?fY)(hj:j<m)[?a2M] :
 ?H5<=2 ^ (j-f)*μ/\QH n W w lo R B t p f m ?P μ (?r R' p j (-(?gH))) (?r B' j p (?gH)):=by
 have hh:=P.pos j hf hj;have ne:p≠j:=O9m
 have q1:=MK hh (h.rel j ?h hj);apply#[q1,?_];generalize hq:?gH=q at q1;have rj:∀c,?GW:=λc=>h.same j c ?g4;apply#[?oM ?_,?HD,?dF,?iX,?iX,λW'=>?_]
 . have:=?OF (n:=n) (W:=W) (w:=w) (lo:=lo) R' B' hp (show j<lo by omega) hn ne ?eA;rw[qo3]at this;ext a3
 . rw[Dn hr];exact h.same r c hr
 . rw[Cl,h.left c hc,rj,?BK j c hf hj (hc j hf hj)];simp
 . rw[Cl,rj];by_cases e:l=j
   . subst e;have d1:=qk1 (?hC) (?a3C ?fK 0);have d2:=qh9 (?hC) hh;have d3:=Int.mul_ediv_add_emod (?hC) (?fK);rw[hq]at d3;have d4:?fK*q=q*?fK:=?rQ;rw[qo4];omega
   . have z:?jB=0:=?BK j _ hf hj (P.inc l j h1 O9m hj);rw[z,qd4,qf6,qd8];exact ?j7 l h1 O9m
 . rw[Cl,rj];have a:=?a5Z h.rel;let ?IU:=P.red j l hf O9m h2;have b:?a84 ?jB ?f5:=O9m
   have c:=qf3 (1*?hC) (-q*?jB);rw[qd8]at c;rw[qd8]
   have d:(-q*?jB).natAbs<=?t6:=by
    rw[qb2,qc7];exact qf4 q1 b
   rw[show j+1-f=(j-f)+1 by omega,qh2];have e:2 ^ (j-f)*2*μ*?f5=?t6+?t6:=?E
   omega
 . let#[v,hv,hc]:=h.ins W';apply#[λc=>1*v c+?eA*?eO,hv.mix ?HN 1 ?eA,λc=>?_];rw[Cl,hc c,rj]
   grind
abbrev Bits(n W b:Nat)(R:Mat):Prop:=∀r c,r<n->c<W->?i8<?C
def iL{x y a k:Int}{b c:Nat}(hx:x.natAbs<?C)(hy:y.natAbs<?C)(ha:a.natAbs<?z)(hk:?R4):?I3<2 ^ (b+c+1):=by
 have e:=?WH;rw[qb2,qb2]at e;have u:a.natAbs*x.natAbs<?qG:=?a5H ha hx
 have v:k.natAbs*y.natAbs<?qG:=?a5H hk hy
 rw[?AI,qh2];omega
def Bits.mono{n W b b':Nat}[?nY](hb:b<=b'):?a6I b' R:=?W7
def Bits.add{n W b c p q:Nat}[?nY][?e9][?DZ]:?a6I (b+c+1) ?hF:=λr x hr hx=>by
 ext kE
 . subst e;rw[Cl]
   have h1:(1:Int).natAbs<2 ^ ?b1:=by
    have:1<=?z:=ql3;rw[qh2];show 1<_;omega
   have e1:=qf3 (1*?nS) (k*R q x);rw[qd8,qb2]at e1;rw[qd8];have u:k.natAbs*(R q x).natAbs<?qG:=?a5H hk (h q x hq hx)
   have v:?P1<?qG:=?OE;rw[?AI,qh2];omega
 . rw[Dn e];exact ?OE
def Bits.blend{n W b e p q:Nat}[?nY][?b3][?a16]:?a6I (b+e+1) (?A R p q x y z u):=λr c hr hc=>by
 by_cases e1:r=p
 . subst e1;rw[?dG];exact iL ?jU (h q c hq hc) hx hy
 . by_cases e2:r=q
   . subst e2;rw[Jy];exact iL (h p c hp hc) ?jU hz hu
   . rw[?XU];exact qb5 ?jU (?p0)
def Bits.neg{n W b p:Nat}[?nY]:?a6I b ?iY:=λr c hr hc=>by
 unfold Hw;ext kE
 . subst e;rw[Bp,qc7];exact ?tU
 . rw[?gG];exact ?tU
def Bits.move{n W b i s:Nat}[?nY][?hM]:?a6I b ?jP:=λr c hr hc=>by
 rw[move_row];exact h _ c (?B0) hc
structure D6[?k2](R0 B0:Mat)[?u](π b:Nat)(spot:Nat)[?W]:Prop where
 good:?zJ
 zero:?L9
 pos:?ZJ
 old:∀j c,spot<=j->j<i->?eO=R0 j c
 pass:∀j c,?lO->c<=t j->?j1
 pv:∀l,spot<=l->l<i->(R i ?v).natAbs<=?S
 gc:∀r c,?c3->G c->?i8<=2 ^ (?sA)
structure Kr[?k2](R0 B0:Mat)[?u](π b:Nat):Prop where
 hi:i<n
 part:?eX R0 t 0 i
 lt:?XX
 hd:?a46 ?FX ?S
 rw:∀r c,r<i->G c->?a84 ?wR ?C
 ri:∀c,G c->(R0 i c).natAbs<=?C
 rp:∀l,l<i->(R0 i ?v).natAbs<=?S
def Part.sub{R:Mat}[?j]{f f' m:Nat}(h:?oE)(hf:f<=f'):?eX R t f' m:=#[λj k h1=>?cW j k O9m,λj c h1=>?aU j c O9m,λj h1=>?mB,λk j h1=>?j7 k j O9m]
def Part.congr{R R':Mat}[?j]{f m:Nat}(h:?oE)(e:∀j c,?fY->j<m->?GW):?eX R' t f m :=
 #[?cW,λj c h1 h2 h3=>by rw[e j c h1 h2];exact ?ML,λj h1 h2=>by rw[e j _ h1 h2];exact ?a0 j h1 h2,λk j h1 h2 h3=>by rw[e k _ h1 ?c,e j _ ?c h3];exact ?Z0]
def D6.start[?aK]{R0 B0:Mat}[?j]{π b:Nat}(h:?w3):D6 n W w i G R0 B0 t π b 0 R0 B0:=by
 apply#[?s8,λj c hj hc=>h.part.zero j c ?aN hj hc,λj hj=>h.part.pos j ?aN hj,?A7,?tB,λl _ hl=>h.rp l hl,?eZ];have e:?C<=2 ^ (?iJ+0*?iK):=?p0;by_cases z:r=i
 . subst z;exact qa5 (h.ri c hc) e
 . exact qa5 (?a79 h.rw r) e
def D6.skip[?aK][?fD][?j][?o4](h:?AD)(hz:∀c,?j3->?j1):?a44 R B:=by
 apply#[h.good,?aU,?a0,λj c hj=>?c9 j c O9m,?fZ,λl hl=>h.pv l O9m,λr c hr hc=>qa5 (?xC) (qe6 ?T ?_)]
 . ext o1
   . subst e;exact hz c hc
   . exact ?a79 h.pass j
 . rw[qf7];omega
structure aM[?k2][?W][?u](b p spot μ:Nat)(R' B':Mat):Prop where
 good:?aV n W w ?i R B R' B'
 same:?Z1
 left:∀c,?j3->?mM=?d1
 red:∀l,?eL->l<i->?HZ
 gc:∀c,G c->?ZN<=?OO+2 ^ ?aY*μ*?C
structure bS[?k2][?W][?u](b p spot μ j:Nat)(R' B':Mat):Prop where
 s:QH n W w ?i R B t p ?t i j μ R' B'
 gc:∀c,G c->?ZN+μ*?C<=?OO+?vH
def bS.start[?aK][?dA][?j][?ET][?DN]:bS n W w i G R B t b p ?d μ ?t R B :=
 #[?Q9 ?ZG,λc _=>by rw[qh8,qx9,qf5];exact ?b6]
def bS.step[?aK][?uV][?j]{b p spot μ j:Nat}(h:?a5K j)[?EF][?DR](hf:spot<j)(hj:j<i)[?EB] :
 ?H5<=?zI/\bS n W w i G R B t b p ?d μ ?P (?r R' p j (-(?gH))) (?r B' j p (?gH)):=by
 let#[q,s]:=h.s.step P O9m hj O9m O9m O9m O9m;apply#[qa5 q (qc0 _ (?p0)),s,?dF];have ne:p≠j:=O9m
 rw[Cl,?WB j c ?g4];have a:=?QU;have e:=qf3 (1*?mM) (-(?gH)*?eO);rw[qd8,qb2,qc7]at e;rw[qd8];have m:=qf4 q (hG j c hf hj hc);rw[show j+1-?t=(j-?t)+1 by omega,qh2];have z:2 ^ (j-?t)*2*μ*?C=?vH+?vH:=?E
 omega
def bS.done[?aK][?uV][?j][?ET](h:?a5K i)(P:?wS):aM n W w i G R B t b p ?d μ R' B' :=
 #[h.s.good,?WB,λc hc=>h.s.left c λl h1 h2=>by have:=?a5Z P;omega,λl h1 h2=>?a5Z h.s.red,λc hc=>by have:=?QU;omega]
def Dp{a b:Nat}(h:a<=b):2 ^ a<=?C:=?PI
def WS{x y a b:Nat}(hx:x<=2 ^ a)(hy:y<=?C):x*y<=?a7K a b:=by rw[qe1];exact qf4 hx hy
def D6.addPre[?aK][?fD][?j][?o4][?fB][?fH]{q:Int}(hq:?D3) :
 ∀l,?eL->l<i->(?r R i ?d ?eA i ?v).natAbs<=?l6*(?r R i ?d ?eA l ?v).natAbs:=λl h1 h2=>by
 rw[Cl,Dn (?a3C l i)];ext a0K;have a:=?vS;have e:=qf3 (1*R i ?v) (-q*?QK);rw[qd8,qb2,qc7]at e;rw[qd8];have m:q.natAbs*?I4<=?qI:=qf4 hq O9m;have m2:?S*1<=?qI:=?D5;rw[qh2];have z:?S*2*?f5=?qI+?qI:=?E
 omega
def D6.metAdd[?aK]{R0 B0 R B R2 B2:Mat}[?j][?o4][?fB][?fH]{q:Int}(hq:?D3)[?uE][?a2Z]
 (S:aM n W w i G (?SI) (?M1) t b i ?d (?l6) R2 B2):?a44 R2 B2:=by
 have ne:i≠spot:=O9m
 have keep:∀r c,?p2->R2 r c=?bO:=λr c hr=>by rw[?iQ r c hr,Dn hr]
 apply#[?_,λj c hj hc=>by rw[?V6];exact ?S5,λj hj=>by rw[?eK j _ ?c];exact ?sB,λj c hj hji=>by rw[?V6];exact ?QF,?fZ,?iX,?eZ]
 . have g:=?OF (n:=n) (W:=W) (w:=w) (lo:=i+1) R B (?a4E i) (?a4E spot) ?c4 ne ?eA;rw[qo3]at g;exact ?GB S.good
 . have ts:?j3:=by
    ext o1
    . rw[←e];exact hc
    . ext a2C
   rw[S.left c ts,Cl];by_cases e:c=?dK
   . rw[e,he,qd8,qo4];omega
   . rw[?YX,?aU ?d c hs ?c];simp
 . let#[a,c]:=?a5Z S.red;rw[Dn (?a3C l i)]at c;ext a1L
 . ext a10
   rw[zb];generalize hz2:?sA=z;have hzb:?iJ<=z:=?TH
   by_cases e:r=i
   . subst e;have a:=S.gc c hc;have g:=?i2 r c ?h hc;rw[hz2]at g;have rs:?MZ:=?JR
     have e1:=qf3 (1*?bO) (-q*?iW);rw[qd8,qb2,qc7]at e1;rw[Cl,qd8]at a;have m1:=WS hq rs
     have m2:2 ^ (r-?t)*?l6*?C<=?zP:=by
      ext a22
     have m3:?a02<=?zP:=?A6;have m4:4*?zP=2 ^ z:=?a4L z z
     have m5:2*2 ^ z<=2 ^ (z+π+1):=by rw[show z+π+1=1+(z+π) by omega,qe1];exact qf4 ?T ?cA
     omega
   . rw[?eK r c e];have g:=?xC;rw[hz2]at g;exact qa5 g ?cA
structure NB(π:Nat)(h0 o0 x y z u:Int):Prop where
 one:x*u-y*z=1
 hd:0<x*h0+y*o0
 ot:z*h0+u*o0=0
 lx:?AP
 ly:?zY
 lz:z.natAbs<=?S
 lu:u.natAbs<=?S
def lZ{x y a c:Int}{π h:Nat}(hx:?AP)(hy:?zY)(ha:a.natAbs<=h)(hc:c.natAbs<=?S)(h1:1<=h):(x*a+y*c).natAbs<=?b9*h:=by
 have e:=qf3 (x*a) (y*c);rw[qb2,qb2]at e;have m1:x.natAbs*a.natAbs<=?pO:=qf4 (qa5 hx ?cA) ha;have m2:y.natAbs*c.natAbs<=?pO:=qa5 (WS hy hc) (by rw[show π+π=2*π by omega];exact qi1 _ h1);rw[qh2];have z:?YO*2*h=?pO+?pO:=?E
 omega
def D6.blendPre[?aK][?fD][?j][?o4][?fB][?fH][?DO] :
 (?a3I ?d)/\(?a3I i):=by
 have ne:?BP:=O9m
 have base:∀l,?eL->l<i->?I4<=?f5/\1<=?f5:=λl h1 h2=>by
  ext a0K;omega
 apply#[?iX,?iX]
 . rw[?dG,?wM];exact lZ e.lx e.ly (?t7).1 (?vS) (?t7).2
 . rw[Jy,?wM];exact lZ e.lz e.lu (?t7).1 (?vS) (?t7).2
def D6.metBlend[?aK]{R0 B0 R B R2 B2 R3 B3:Mat}[?j][?o4][?fB][?fH][?DO][?uE]
 (S1:aM n W w i G (?x2) (?A B ?d i u (-z) (-y) x) t b ?d ?d (?b9) R2 B2) (S2:aM n W w i G R2 B2 t b i ?d (?b9) R3 B3):?a44 R3 B3:=by
 have ne:?BP:=O9m
 have keep:∀r c,?p2->?UR->R3 r c=?bO:=λr c h1 h2=>by rw[S2.same r c h1,?mJ r c h2,Ej h2 h1]
 have rs:∀c,R3 ?d c=R2 ?d c:=λc=>S2.same ?d c ne;have r2i:∀c,R2 i c=z*?iW+u*?h3:=λc=>by rw[?mJ i c (λw=>ne w.symm),Jy]
 have gz:∀c,c<?dK->?iW=0:=λc hc=>?aU ?d c hs hc;apply#[?_,?fZ,?a5,λj c hj hji=>by rw[?eK j c ?c ?c];exact ?QF,?fZ,?iX,?eZ]
 . have g:=Good.blend (n:=n) (W:=W) (w:=w) (lo:=i+1) R B (?a4E spot) (?a4E i) ?c4 ne e.one;exact(?GB S1.good).trans S2.good
 . by_cases e1:?jA
   . subst e1;rw[rs,S1.left c ?c,?dG,gz c hc,hz c hc];simp
   . rw[?eK j c ?c e1];exact ?S5
 . by_cases e1:?jA
   . subst e1;rw[rs,S1.left _ ?h,?dG];exact e.hd
   . rw[?eK j _ ?c e1];exact ?sB
 . have ts:?j3:=by
    by_cases e1:?jA
    . rw[←e1];exact hc
    . ext a2C
   rw[S2.left c ts,r2i];by_cases e1:c=?dK
   . rw[e1];exact e.ot
   . rw[?YX,gz c ?c];simp
 . let#[a,c]:=?a5Z S2.red;rw[?XT,?wM]at c;ext a1L
 . ext a10
   rw[zb];have g0:=?a79 ?i2 ?d;have gi:=?i2 i c ?h hc;have gr:=?xC;generalize hz2:?sA=zz at g0 gi gr;have hzb:?iJ<=zz:=?TH
   have rsb:?MZ:=?JR
   have bnd:∀{x y:Int},?AP->?zY->(x*?iW+y*?h3).natAbs+2 ^ ?aY*?b9*?C<=2 ^ (zz+π+1):=λ{x y} hx hy=>by
    have e1:=qf3 (x*?iW) (y*?h3);rw[qb2,qb2]at e1;have m1:=WS hx rsb;have m2:=WS hy gi
    have m3:2 ^ ?aY*?b9*?C<=?xB:=by
     ext a22
    have m4:?a02<=?xB:=?A6;have m5:4*?xB=2 ^ zz:=?a4L zz zz
    have m6:2 ^ zz<=?a7K π zz:=?h4;have m7:2 ^ (zz+π+1)=2*?a7K π zz:=by rw[show zz+π+1=1+(π+zz) by omega,qe1,Nat.pow_one]
    omega
   by_cases e1:r=i
   . subst e1;have a:=S2.gc c hc;rw[r2i]at a;exact qa5 a (bnd e.lz e.lu)
   . by_cases e2:?x1
     . subst e2;have a:=S1.gc c hc;rw[?dG]at a;rw[rs];exact qa5 a (bnd e.lx e.ly)
     . rw[?eK r c e1 e2];exact qa5 gr ?cA
abbrev insT[?u](s st:Nat):?w:=λr=>if r<s then t r else if r=s then st else t ?i0
structure XY[?k2](R0 B0:Mat)(t1:?w)(Y:Nat)[?W]:Prop where
 good:?zJ
 s0:Jp ?i R t1
 lt:∀j,?c6->t1 j<W
 pg:∀j,?c6->G (t1 j)
 gc:∀r c,?c3->G c->?i8<=?qQ
def D6.ins[?aK][?fD][?j]{π b spot st:Nat}[?fB][?a0R] :
 XY n W w i G R0 B0 ?cR ?fP (?WF) (?GX):=by
 have row:∀c,?MP=?h3:=λc=>by ext k3;ext u6
 have lo:∀r c,r<spot->?oS=?bO:=λr c hr=>by ext k3;rw[?z0]
 have up:∀r c,?jR->?c3->?oS=R ?i0 c:=λr c hr hi=>by ext k3;rw[?q,?q,?y7]
 have gm:?aV n W w ?i R0 B0 ?q0 (?zX):=?oM (Good.move R B O9m hs ?c4)
 have tl:∀j,?lO->t j<st:=λj hj=>by
  apply qj1 λz=>h1 (h.pass j st hj z)
 have inc:∀j k,j<k->k<i+1->?kV<?fU t ?d st k:=λj k hjk hk=>by
  unfold insT;by_cases a1:?lO
  . rw[?oZ];by_cases b1:k<spot
    . rw[?o b1];exact ?jW j k ?aN hjk O9m
    . rw[?g b1];by_cases b2:k=spot
      . rw[?o b2];exact tl j a1
      . rw[?g b2];exact ?a55 j
  . rw[?s4,?g (show ¬k<spot by omega),?g (show ¬k=spot by omega)];by_cases a2:?jA
    . rw[?w7];have e:=hex O9m;by_cases e2:k-1=spot
      . rw[e2];exact e
      . exact qv1 e (?a55 ?d)
    . rw[?xP];exact ?a55 ?j4
 have zero:∀j c,j<i+1->c<?kV->?a7J j c=0:=λj c hj hc=>by
  unfold insT at hc;by_cases a1:?lO
  . rw[?oZ]at hc;rw[lo j c a1];exact ?a79 ?aU j
  . rw[?s4]at hc;by_cases a2:?jA
    . rw[?w7]at hc;rw[a2,row];exact h0 c hc
    . rw[?xP]at hc;rw[up j c ?c ?c];exact ?a79 ?aU ?j4
 have Ax4:∀j,j<i+1->j≠spot->0<?a7J j (?kV):=λj hj hne=>by
  unfold insT;by_cases a1:?lO
  . rw[?oZ,lo j _ a1];exact ?mB
  . rw[?s4,?CB,up j _ ?c ?c];exact ?a0 ?j4 O9m
 have ts:?fU t ?d st ?d=st:=?XH
 have bd:∀r c,?c3->G c->(?oS).natAbs<=2 ^ ?fP:=λr c hr hc=>by
  rw[move_row]
  have lm:mvI i ?d r<=i:=by
   unfold mvI;by_cases a1:r<spot
   . rw[?oZ];omega
   . rw[?s4];by_cases a2:?x1
     . rw[?w7];omega
     . rw[?xP,?z0];omega
  apply qa5 (?i2 _ c lm hc) (Dp ?_);have:=qc0 ?iK hs;omega
 have lt:∀j,?c6->?kV<W:=λj hj=>by
  unfold insT;split
  . exact H.lt j O9m
  . split
    . exact hW
    . exact H.lt ?j4 O9m
 have pg:∀j,?c6->G (?kV):=λj hj=>by
  unfold insT;split
  . exact hpg j O9m
  . split
    . exact hG
    . exact hpg ?j4 O9m
 by_cases neg:?m2
 . rw[?o neg,?o neg];have nr:∀c,Hw ?q0 ?d ?d c=- ?MP:=λc=>Bp ..;have nn:∀r c,?UR->Hw ?q0 ?d r c=?oS:=λr c hr=>Bw hr c;apply#[gm.trans (Good.neg _ _ O9m ?c4),#[inc,?fZ,?a5],lt,pg,?eZ]
   . ext o1
     . have z:=?SD;rw[e]at z ⊢;rw[nr,z];rfl
     . rw[nn j c e];exact ?SD
   . ext o1
     . rw[e,nr,ts];omega
     . rw[nn j _ e];exact ?a09
   . by_cases e:?x1
     . have z:=?NC;rw[e]at z ⊢;rw[nr,qc7];exact z
     . rw[nn r c e];exact ?NC
 . rw[?g neg,?g neg];apply#[gm,#[inc,zero,?a5],lt,pg,bd];ext o1
   . rw[e,ts];have:?G5≠0:=by rw[row];exact h1
     omega
   . exact ?a09
structure P6(n W w i:Nat)(R0 B0:Mat)[?u](k:Nat)[?W]:Prop where
 good:?zJ
 s0:?VV
 old:∀r c,r<k->?bO=?wR
 red:∀r j,k<=r->r<j->?c6->0<=R r ?L/\R r ?L<?aF
 hd:∀j,?c6->?aF=?FX
def P6.start{n W w i:Nat}[?dA][?j](h:?VV):P6 n W w i R B t ?i R B:=#[?s8,h,?jG,λr j h1 h2 h3=>O9m,?jM]
def P6.part{n W w i:Nat}[?fD][?j]{k:Nat}(h:P6 n W w i R0 B0 t k R B):?eX R t k ?i:=#[λj l _ h1 h2=>?xR j l h1 h2,λj c _ h1 h2=>?VK j c h1 h2,λj _ h1=>?F7 j h1,λr j h1 h2 h3=>?j7 r j h1 h2 O9m]
def P6.next{n W w i:Nat}{R0 B0 R B R' B':Mat}[?j]{k μ:Nat}(h:P6 n W w i R0 B0 t ?bT R B)(hk:k<=i)(S:QH n W w ?i R B t k ?bT ?i ?i μ R' B'):P6 n W w i R0 B0 t k R' B':=by
 have tl:∀c,c<=t k->R' k c=?jD:=λc hc=>S.left c λl h1 h2=>by have:=?xR k l O9m h2;omega
 apply#[?oM S.good,#[?xR,?fZ,?a5],?HD,λr j h1 h2 h3=>?_,?a5]
 . ext bJ
   . subst e;rw[tl c ?c];exact ?Z7
   . rw[?iQ j c e];exact ?Z7
 . ext bJ
   . subst e;rw[?L5];exact ?N3
   . rw[?EX];exact ?N3
 . rw[?iQ r c ?c];exact ?c9 r c O9m
 . rw[?iQ j _ (?a3C j k)];by_cases e:r=k
   . subst e;exact S.red j O9m O9m
   . rw[?iQ r _ e];exact ?j7 r j O9m h2 h3
 . ext bJ
   . subst e;rw[?L5];exact ?HU
   . rw[?EX];exact ?HU
structure Ee[?k2](M B0:Mat)[?u][?W]:Prop where
 good:?a6U i M
 st:Du W i R t
 pg:?VN
def Ee.start(n W w:Nat)(G:?aL)(M B0:Mat)[?u]:Ee n W w 0 G M B0 t M B0:=#[?s8,#[?hS,λj k _ hk=>O9m,?tB,?hS,λk j _ hj=>O9m],?hS]
def Ee.next[?aK]{M B0 R B R1 B1 R2 B2:Mat}{t t1:?w}{Y:Nat}[?hI](I:XY n W w i G R B t1 Y R1 B1)(D:P6 n W w i R1 B1 t1 0 R2 B2):Ee n W w ?i G M B0 t1 R2 B2 :=
 #[((h.good.mono O9m).trans I.good).trans D.good,#[?a66 I.lt,D.s0.inc,D.s0.zero,?LE,λk j h1 h2=>D.red k j ?aN h1 O9m],?a66 I.pg]
def Ee.rows{n W w:Nat}[?bW][?j][?E7](hw:w<=W):E8 n w M R:=by
 have e:=?MQ;have cut:∀{S:Mat}{v:?k},In W n S v->?a6A S v:=λ ?a1=>#[x,λc hc=>hx c O9m]
 apply#[λi hi=>cut (e.1 i hi),λi hi=>cut (e.2 i hi),?_]
 obtain⟨r,hr,h1,h2⟩:?ME:=by
  have:?PR:=by
   intro m
   induction m with
   | zero=>ext a20
   | succ m ih =>
     ext a21
     . have hrm:r=m:=by
        ext a27;have:=?l7 r m y O9m;omega
       exact#[m+1,?b6,λj hj=>by
        by_cases q:j=m
        . rw[q];exact z
        . exact b j O9m,?wI]
     . exact#[r,O9m,b,λj h1 h2=>by
        by_cases q:j=m
        . rw[q];omega
        . exact ?Q4]
  exact ?MJ
 exact#[r,t,hr,?JV,?US]
abbrev unit(e:Int)(j:Nat):?k:=λc=>if c=j then e else 0
noncomputable abbrev tr(T:Mat):Mat:=?Q6
structure Jq(n w r:Nat)(e:Int)(T:Mat):Prop where
 rn:?bC
 rw:?g3
 row0:?WU
 col0:?TD
 rows:?SU
 cols:?KU
def Jq.flip[?uG](h:?sF):Jq w n r e ?dN:=#[h.rw,h.rn,λi c h1 h2 h3=>?D8 c i h3 h1 h2,λi c h1 h2 h3=>h.row0 c i h2 h3 h1,h.cols,h.rows]
def Um{n w r r':Nat}{e:Int}{T:Mat}[?j](he:0<e)(hr:?g3)(hr':r'<=n)(hst:Du w r' T t)(hz:∀i c,r'<=i->?PK)[?a1H] :
 r'=r/\(?A5)/\?pN:=by
 have tl:∀j,j<r'->t j<r:=λj hj=>by
  ext hL;have p:=?oI;rw[hc j ?L ?c z (?a78 ?f6)]at p;omega
 have main:∀j,j<=r->j<=r'/\(∀k,k<j->?pG)/\∀k,k<j->?aJ∣e:=by
  intro j
  induction j with
  | zero=>intro _;exact#[?aE,?C6,?C6]
  | succ j ih =>
    intro hj;let ?T7:=?cZ;let ?a1:=(Mn j O9m).sub hr' hz;have v0:∀k,k<j->?aT e j ?a6=0:=λk hk=>by rw[b k hk];exact ?g O9m
    let#[x0,x1]:=?wG hx j a v0;have ej:?wZ=e:=?s
    have lt:j<r':=by
     ext hL
     have:?wZ=0:=by
      rw[?GR];exact ?a6W ?c
     omega
    have tj:t j=j:=by
     apply qi8 ?eQ (?l0 j lt)
     have:?wZ=0:=by
      rw[?GR];apply ?U ?rB;by_cases e1:k<j
      . rw[x0 k e1];simp
      . rw[?gX k j hk (qb5 z (?HE j k ?c hk))];simp
     omega
    have d:=x1 lt;rw[tj,ej]at d;apply#[lt,?rB,?rB]
    . by_cases e1:k=j
      . rw[e1];exact tj
      . exact b k O9m
    . by_cases e1:k=j
      . rw[e1];exact#[x j,by rw[d,qe8]]
      . exact c k O9m
 let ?T7:=main r ?h;apply#[qi8 ?eQ a,b,c];have:=tl r z;have:=?l0 r z;omega
def Zl[?uG][?j](kC:?bC)(hrw:?g3)[?a26][?a1H]:?KU:=by
 have ch:∀j,∃x:?k,j<r->∀c,c<w->?GD=?a3G ?cC r:=λj=>by
  by_cases hj:j<r
  . let ?a1:=(?a78 Mn).sub kC hz;exact ?R5
  . exact#[?cT,λz=>?gZ z hj]
 obtain⟨X,hX⟩:∃X:?dY,∀j,j<r->∀c,c<w->?GD=?f (λk=>X j k*?cC) r:=Classical.axiomOfChoice ch
 have key:∀i,i<r->∀j,j<r->?f (λc=>?hE*X c j) r=?YE:=by
  intro i hi
  have hz0:∀c,c<w->(?U1) c=?KM:=by
   intro c hcw
   have e1:?KM=?f (λj=>?f (λd=>?xL*?gD) r+?G*((?AW)*(e*?gD))) r:=by
    apply Ah λj _=>?_;rw[Int.sub_mul,←Db];by_cases z:i=j
    . subst z;rw[?s,?s];omega
    . rw[?eR,?g λy=>z y.symm];omega
   rw[e1,Cm,Ay,Dv (λj=>e*?gD) i r,?y7,B5]
   have e2:?f (λd=>?f (λj=>?xL*?gD) r) r=?f (λd=>T i d*?aT e d c) r:=by
    apply Ah ?pY;rw[hX d hd c hcw,←Ay];exact Ah λj _=>qe0 ..
   rw[e2];show ?dD=_;by_cases hcr:c<r
   . rw[?a9 (j:=c) hcr λd hd hne=>by show ?a6M 0;rw[?g ?yO];simp];show ?dD=?hE*(if c=c then e else 0)+-1*(e*?hE);rw[?s,qe8];omega
   . rw[?U λd hd=>by show ?a6M 0;ext d7;simp,hc i c ?c ?c hcw];simp
  let#[a,_]:=?wG hz0 r ?h ?jM;intro j hj;have:=?a78 a;omega
 intro i hi;apply#[λc=>if c<r then X c i else 0,λc hcn=>?_];show ?aT e i c=?RR
 have e1:?RR=?QO:=by
  have:∀m,r<=m->m<=w->?a4W m=?QO:=by
   intro m
   induction m with
   | zero =>
     intro h1 _;have:r=0:=O9m
     subst this;rfl
   | succ m ih =>
     intro h1 h2;by_cases q:r=m+1
     . subst q;apply ?w0;rw[?o hk,qe8]
     . show ?f _ m+(if m<r then X m i else 0)*T c m=_;rw[?UG,?q];simp
  exact ?I w hrw ?h
 rw[e1];by_cases hcr:c<r
 . rw[key c hcr i hi];rfl
 . rw[?U λk hk=>by rw[hz c k ?c hcn ?c];simp];exact ?g O9m
def E8.square{n w r:Nat}{e:Int}[?EE][?uH]:Jq n w r e T'/\∃t,?nP/\(?A5)/\∀j,j<r->T' j j∣e:=by
 let#[r',t,hr',hst,hz]:=s.st
 have hc:∀i c,i<n->r<=c->?HR:=λi c hi h1 h2=>by
  let ?a1:=s.fwd i hi;rw[hx c h2];exact ?U λk hk=>by rw[?D8 k c hk h1 h2];simp
 have Mn:∀j,j<r->?a6A T' ?IE:=λj hj=>(?a78 h.rows).trans s.bwd;let ?ID:=Um he h.rw hr' hst hz hc Mn;subst e1;exact#[#[h.rn,h.rw,hz,hc,Mn,Zl h.rn h.rw hst hz hc Mn],t,hst,e2,e3]
def nO[?uG][?j][?uH](hst:?M2)(ht:?A5)(hd:?pN){i c:Nat}[?dB](hc:c<w):?UJ:=by
 by_cases a:i<r
 . by_cases b:c<r
   . have l:=qn3 he (hd c b);rcases qk7 i c with z | z | z
     . have:=hst.red i c z b;rw[ht c b]at this;omega
     . subst z;have:=?pC i a;rw[ht i a]at this;omega
     . rw[?gX i c a (by rw[ht i a];exact z)];omega
   . rw[?D8 i c hi ?c hc];omega
 . rw[h.row0 i c ?c hi hc];omega
def KH{n w r:Nat}{T:Mat}[?j](kC:?bC)[?a26]:∀i,i<r->?a5S (?vM):=by
 have main:∀m i,i<m->m<=r->?a5S (?kZ):=by
  intro m
  induction m with
  | zero=>intro i hi;omega
  | succ m ih =>
    intro i hi hm;by_cases q:i<m
    . exact ih i q O9m
    have qi:i=m:=O9m
    subst qi
    have up:∀k,k<=i->In n w ?dN (λd=>?a4B k):=by
     intro k
     induction k with
     | zero=>intro _;exact ?r1 ..
     | succ k ihk =>
       intro hk;have hk2:=ih k O9m O9m
       obtain⟨g,hg⟩:∃g,?iG=?AQ*g:=by
        have:∀m,k+1<=m->∃g,?P4=?AQ*g:=by
         intro m
         induction m with
         | zero=>intro h;omega
         | succ m ihm =>
           intro h;by_cases z:k+1=m+1
           . exact ?P6
           . ext a12
        exact ?a07
       apply((ihk O9m).mix hk2 1 (T k ?d4*g)).congr ?RX;show 1*?f _ k+?a74 g ?AQ=?f _ k+?a74 ?iG 1;rw[hg];by_cases z:d=k
       . rw[?dO,?dO];grind
       . rw[?eR,?eR];omega
    have col:In n w ?dN (tr T ?d4):=?O (?f6 i O9m);apply(col.mix (up i ?h) (?iG) ?G).congr ?pY;show ?iG*T d ?d4+-1*?a4B i=?BM;by_cases z:d<i
    . rw[?a9 (j:=d) z λl hl hne=>by rw[?g ?yO];simp,?s];rw[show ?BM=0 from ?q]
      grind
    . rw[?U λl hl=>by ext d7;simp];by_cases z2:d=i
      . subst z2;rw[show ?aT (?UO) d d=?UO from ?s];show _=?n ?fV d*T d (t d);omega
      . rw[show ?BM=0 from ?g z2]
        have:T d ?d4=0:=by
         by_cases z3:d<r
         . exact ?UK z3 O9m
         . exact hz d _ O9m hd (?f6 i O9m)
        ext cM
 intro i hi
 obtain⟨g,hg⟩:∃g,?vM=?kZ*g:=by
  have:∀m,i+1<=m->∃g,?P4=?kZ*g:=by
   intro m
   induction m with
   | zero=>intro h;omega
   | succ m ihm =>
     intro h;by_cases z:i+1=m+1
     . exact ?P6
     . ext a12
  exact ?I r hi
 apply((main r i hi ?h).mix (?r1 ..) g 0).congr ?RX;show g*(if d=i then ?kZ else 0)+0*0=if d=i then ?vM else 0
 by_cases z:d=i
 . rw[?dO,?dO,hg];grind
 . rw[?eR,?eR];omega
def Xo.square[?fI]{T T' Og:Mat}{r:Nat}[?j][?a15]:?g3/\Jq n w r (?iT) Og/\∃u,Du n r ?q9 u/\(?FK)/\∀j,j<r->Og j j∣ ?iT:=by
 ext a1F;let#[q,u,hq,bE,TH]:=s2.st
 have hrw:?g3:=by
  by_cases z:r=0
  . omega
  . have:=?l0 ?i0 O9m;have:=?f6 ?i0 O9m;omega
 have hc:∀i c,i<w->r<=c->c<n->tr Og i c=0:=λi c hi h1 h2=>by
  let ?a1:=s2.fwd i hi;rw[hx c h2];exact ?U λk hk=>by rw[show tr T' k c=0 from hz c k h1 h2 hk];simp
 have Mn:∀j,j<r->In n w ?q9 (?aT (?iT) j):=λj hj=>(KH hr hst hz j hj).trans ?sW;let ?ID:=Um he hr hq bE TH hc Mn;subst e1;have sq:Jq w n q (?n (?a5O ?L) q) ?q9:=#[hrw,hr,TH,hc,Mn,Zl hrw hr bE TH hc Mn]
 exact#[hrw,?CU,u,bE,e2,e3]
def QU:∀{n:Nat}{A:Mat},(∀r c,r<n->c<n->?J2<=1)->(∀c r r',c<n->r<n->r'<n->?i7≠0->A r' c≠0->r=r')->?U0<=1
 | 0,_,_,_=>by simp[det]
 | n+1,A,h1,h2=>by
   show ?OS<=1;by_cases e:∃r,r<n+1/\A r 0≠0
   . let#[r,hr,hne]:=e
     rw[?a9 (j:=r) hr λk hk hkr=>by
      have:A k 0=0:=qg7 λz=>hkr (h2 0 k r ?c hk hr z hne);ext cM]
     rw[qb2,qb2,Y3,qf5]
     have ih:=QU (n:=n) (A:=Hf A r) (λx c hx hc=>h1 _ _ ?bQ O9m) λc x x' hc hx hx' a b=>by
      have:=h2 ?b1 (if x<r then x else x+1) (if x'<r then x' else x'+1) O9m ?bQ ?bQ a b;split at this<;>split at this<;>omega
     exact qa5 (qf4 (h1 r 0 hr O9m) ih) ?T
   . rw[?U λk hk=>by
      have:A k 0=0:=qg7 λz=>e #[k,hk,z];ext cM]
     decide
def EX{n p:Nat}(A:Mat)[?e9](a:?k)(U:Mat):∀m,?a3F ?FZ=?vJ
 | 0=>by
   show ?a7S (Bz A p λc=>?dD)=0;exact Vn hp λc _=>Bp ..
 | m+1=>by
   have e:(λc=>?f (λk=>a k*?gK) ?mR)=λc=>1*(?FZ) c+?lC:=?aH λc=>by
    show ?v8+?lC=1*?v8+?lC;omega
   rw[e,Fs A _ _ 1 (a m) hp,EX A hp a U m];show 1*?vJ+a m*?a3F (U m)=?vJ+a m*?a3F (U m);rw[qd8]
abbrev Yh(s:?w):Mat:=λr l=>if s l=r then 1 else 0
abbrev GG(T:Mat)(s:?w)(k:Nat):Mat:=λr l=>if r<k then Yh s r l else T r ?bA
def nQ[?DQ]{k:Nat}(hk:k<i):?UL=?aJ*?a82 (GG T s ?bT):=by
 have e0:?vE=Bz (?vE) k λc=>?f (λj=>T k j*?qY) ?bT:=by
  funext r c
  by_cases z:r=k
  . subst z;rw[Bp];show ?a76 r;ext d7;by_cases y:s c<r+1
    . rw[?a9 (j:=s c) y λj _ hne=>by
       have:?qY=0:=?wD;ext cM]
      have:Yh s ?gJ c=1:=?s;ext cM
    . rw[?U λj hj=>by
       have:?qY=0:=?q;ext cM]
      exact h r ?gJ hk O9m
  . rw[Bw z]
 ext a1S
 . congr 1
   apply Dt ?eZ;by_cases z:r=k
   . subst z;rw[Bp];show _=if r<r+1 then ?jL else ?k0
     ext nZ
   . rw[Bw z];show(if r<k then ?jL else ?k0)=if r<k+1 then ?jL else ?k0
     by_cases y:r<k
     . ext u8
     . ext u7
 . ext a19;show(if j<k then ?qY else T j ?gJ)=_;ext nZ
def LN[?DQ]:∀k,k<=i->?a82 (?PS)=?wW*?UL
 | 0,_=>by
   show _=1*?a82 (GG T s 0);rw[qd8]
   exact Dt λr c hr hc=>by
    show _=if r<0 then ?jL else ?k0
    ext d7
 | k+1,hk=>by
   rw[LN h s k ?c,nQ h s ?c];ext a2F
def zZ[?DQ]:(?BV).natAbs<=(?HV).natAbs:=by
 rw[LN h s i ?h,qb2]
 have e:?a48 (GG T s i) 1:=by
  have k:∀r c,r<i->GG T s i r c=if s c=r then 1 else 0:=λr c hr=>by
   show ?a76 i;rw[?z0];rfl
  apply QU (?eZ) λc r r' hc hr hr' a b=>?_
  . rw[?PX];split<;>decide
  . rw[?PX]at a;rw[k r' c hr']at b;split at a
    . split at b
      . omega
      . exact ?gZ rfl b
    . exact ?gZ rfl a
 exact qa5 (qf0 _ e) O9m
abbrev P7(n:Nat)(G:?aL)(M:Mat)(D:Nat):Prop:=∀i,?hU->∀s:?w,(?GI)->(det i (?a64 M)).natAbs<=D
def Ee.detsD[?uX][?bW][?j][?uK][?hI](hi:i<=m){s:?w}(hs:?GI):?a48 ?BX D:=by
 rw[h.good.det i ?h s];exact hD i hi s hs
def Ee.headD[?uX][?bW][?j][?uK][?hI](hi:i<=m){j:Nat}(hj:j<i):?eD<=D:=by
 have:=xE ?zW (?B1 hD hi (s:=t) h.pg) hj;have p:=?QM;omega
def Ee.rowD[?uX][?bW][?j][?uK][?hI](hi:i<=m)[?uP]{r c:Nat}(hr:r<i)(hc:G c):?i8<=i*D:=by
 have:=VL ?zW ?gP (?O hr) (κ:=1) (D:=D) (zC c hc) (?a5) λk hk=>?B1 hD hi ?tE
 . rw[qf5]at this;ext a3
 . rw[qf5];rcases qk7 r j with z | z | z
   . let ?kY:=?pX r j z hj;omega
   . rw[z];exact ?b6
   . rw[h.st.s0.low hr z];exact ?aE
 . cases l with
   | zero=>exact hc
   | succ l=>exact h.pg _ ?bQ
def Ee.putD[?uX][?bW][?j][?uK][?hI](hm:i<=m)[?dB][?uP]{b0 π b:Nat}(hM:∀c,G c->(M i c).natAbs<=?DG)[?a28]:?V2:=by
 apply#[hi,?DH,?gP,λj hj=>qa5 (h.headD hD hm hj) h1,λr c hr hc=>qa5 (h.rowD hD hm zC hr hc) h2,?dF,?tE]
 . rw[?qT i c ?h];exact qa5 (hM c hc) (Dp h4)
 . rw[?qT i _ ?h];exact qa5 (hM _ (h.pg l hl)) (Dp h3)
def Jq.free[?uG][?uH]{m:Nat}(hm:m<=r){x:?k}(hx:∀c,c<w->?wL=0):∀k,?RB:=by
 intro l hl;let ?n3:=h.cols l O9m;have e1:?ST=0:=?U λc hc=>by rw[?f0];simp
 have e2:?ST=?a3G ?V9 m:=by
  rw[show(λc=>y c*?wL)=λc=>?a3G (y c*?cC) m from ?aH λc=>by
   rw[←Ay];exact Ah λk _=>?E]
  rw[B5];apply ?w0;rw[hy k (by have:=h.rn;omega),←Ay]
 rw[e2,?a9 (j:=l) hl λk _ hne=>by
  have:?V9=0:=?CB;ext cM]at e1
 have:?aT e l l=e:=?s;rw[this]at e1;rcases ?tI e1 with z | z
 . exact z
 . omega
def VH[?kC]{e:Int}{T M B0 R B:Mat}[?uH](hM:∀k c,k<n->c<w->M k c=?cC)(hi:i<r)(g:?a6U ?i M)(hW:?AT)(d:?a6B M B0):∃c,c<w/\?h3≠0:=by
 have rn:=h.rn;apply qg7 ?pP;have z0:∀c,?NM:=λc hc=>qg7 λy=>z #[c,hc,y];let ?a1:=(g.eqv ?i ?h).1 i O9m
 have x0:=h.free he (m:=i+1) O9m (x:=x) λc hc=>by
  rw[←z0 c hc,?M8];exact Ah λk hk=>by rw[hM k c ?c hc]
 let#[c,hc,hne]:=(g.dual d).row (i:=i) O9m;apply hne ?_;rw[hx ?tJ ?c];exact ?a6W hk
structure So(n W w r:Nat)(kt:?w)(hd:?k)(M:Mat):Prop where
 zero:∀j c,?aO->j<n->c<?fS->M j c=0
 inc:∀j k,?aO->j<k->k<n->?fS<kt k
 ge:∀j,?aO->j<n->w<=?fS
 lt:∀j,?aO->j<n->?fS<W
 head:∀j,?aO->j<n->M j ?eF=?iI
 pos:∀j,?aO->j<n->0<?iI
 red:∀k j,?aO->k<j->j<n->0<=?z4/\?z4<?iI
structure Ci(n W w r i:Nat)[?a2E][?u][?W]:Prop where
 st:?LY
 tab:∀j,j<r->j<i->t j<w
 ker:∀j,?aO->j<i->t j=?fS/\?aF=?iI
def Ci.start(n W w r:Nat)[?a2E][?u]:Ci n W w r 0 G M B0 kt hd t M B0:=#[Ee.start ..,?TA,?TA]
def Ci.next[?kC][?oA]{M B0 R B R1 B1 R2 B2:Mat}[?d6]{Y spot st:Nat}[?a2Y](hi:i<r)(hst:st<w)(hs:?j0)(I:XY n W w i G R B ?cR Y R1 B1)(D:P6 n W w i R1 B1 ?cR 0 R2 B2):?a60 ?cR:=by
 apply#[h.st.next I D,?p8,?wI];unfold insT;split
 . exact ?TP
 . split
   . exact hst
   . exact ?oV ?j4 O9m O9m
def Ci.skip[?kC][?bW][?d6][?nT](hn:i<n){spot c:Nat}[?fH](hc:?j3):?j1:=by
 rw[?OX];apply ?DA i c hi hn ?_;have g:=K.ge i hi hn;by_cases z:?jR
 . have:=?oV ?d z hs;omega
 . have:=(?lZ ?d O9m hs).1;have:=K.inc ?d i O9m hs hn;omega
def Rz(R:Mat)(i:Nat):?R R i i=R:=by
 funext r
 ext k3;by_cases a:r<i
 . rw[?o a]
 . rw[?g a];by_cases b:r=i
   . rw[?o b,b]
   . rw[?g b,?q]
def Ci.ins[?kC][?bW][?d6]{π b:Nat}[?nT](H:?V2)(hG:G ?eJ):XY n W w i G R B ?bL ?fP R B/\?KY:=by
 have all:?KY:=by
  intro spot
  induction spot with
  | zero=>intro _;exact D6.start H
  | succ s ih=>intro hs;exact(?cZ).skip λc hc=>h.skip K hi ?c4 O9m hc
 apply#[?_,all];have e:R i ?eJ=hd i:=by ext E2;exact ?wJ i hi ?c4
 have p:=?q7 i hi ?c4;have:=(all i ?h).ins H ?h (st:=kt i) (λc hc=>by rw[?OX];exact ?DA i c hi ?c4 hc) O9m (K.lt i hi ?c4) hG h.st.pg (λz=>O9m);rw[Rz,Rz,?q,?q]at this;ext a3
def Ci.nextK[?kC][?oA]{M B0 R B R2 B2:Mat}[?d6]{Y:Nat}[?nT](hn:i<n)(I:XY n W w i G R B ?bL Y R B)(D:P6 n W w i R B ?bL 0 R2 B2):?a60 ?bL:=by
 ext a1M;ext DI
 apply#[h.st.next I D,λj h1 h2=>by rw[?WT];exact ?TP,?p8];rw[D.hd j ?c];by_cases z:j=i
 . rw[z,t2];exact#[rfl,by ext E2;exact ?WV]
 . rw[?WT];exact ?lZ j h1 O9m
def Ci.done{n W w r:Nat}[?bW][?d6](K:?B4)(h:?a7G W M):?a3X W R:=by
 apply#[?YI,K.inc,K.ge,K.lt,?p8,?q7,?ZE]
 . rw[←(?LD).1]at h3;exact h.st.st.zero j c h2 h3
 . let ?kY:=?LD;rw[←a];exact b
 . let ?kY:=?lZ j h1 h3;rw[←a,←b];exact ?PW k j h2 h3
abbrev GZ(V Z:Mat)(k:Nat):Mat:=λr l=>if r<k then Z r l else V r l
def OG[?a1D]{k:Nat}(hk:k<i):?DD=?aJ*?a7E ?bT:=by
 have e0:?DD=?a82 (Bz (GZ V Z k) k λc=>?f (λj=>T k j*Z j c) ?bT):=Dt λr c hr hc=>by
  by_cases z:r=k
  . subst z;rw[Bp];show(if r<r then ?kX else ?iL)=_;ext d7;exact ?tU
  . rw[Bw z]
 ext a1S
 . congr 1
   apply Dt ?eZ;by_cases z:r=k
   . subst z;rw[Bp];show _=if r<r+1 then ?kX else ?iL
     ext nZ
   . rw[Bw z];show(if r<k then ?kX else ?iL)=if r<k+1 then ?kX else ?iL
     by_cases y:r<k
     . ext u8
     . ext u7
 . ext a19;show(if j<k then Z j c else V j c)=_;ext nZ
def dM[?a1D]:∀k,k<=i->?a82 V=?wW*?DD
 | 0,_=>by
   show _=1*?a7E 0;rw[qd8]
   exact Dt λr c hr hc=>by
    show _=if r<0 then ?kX else ?iL
    ext d7
 | k+1,hk=>by
   rw[dM h k ?c,OG h ?c];ext a2F
def cL{w r:Nat}{U V:Mat}(hw:?g3)(hU:∀k c,k<r->c<k->?gK=0)(hV:∀l,l<r->In w r U (V l))(h0:∀l i,l<r->i<r->l<i->V l i=0):?a4Z U r∣ ?FO:=by
 have ch:∀l,∃x:?k,l<r->∀c,c<w->V l c=?a3G ?gK r:=λl=>by
  by_cases hl:l<r
  . let ?a1:=hV l hl;exact ?R5
  . exact#[?cT,λz=>?gZ z hl]
 obtain⟨X,hX⟩:∃X:?dY,∀l,l<r->∀c,c<w->V l c=?f (λk=>X l k*?gK) r:=Classical.axiomOfChoice ch;have e1:det r (tr V)=?FO:=Y9 (A:=tr V) λi l hi hl=>h0 l i O9m hi hl;have e2:=dM (i:=r) (T:=tr U) (V:=tr V) (Z:=tr X) (λi l hi hl=>?_) r ?h
 . rw[e1]at e2;exact#[_,e2]
 . show V l i=_;rw[hX l hl i ?c]
   have:∀m,m<=r-?i->?QR=?f (λj=>tr U i j*tr X j l) ?i:=by
    intro m
    induction m with
    | zero=>intro _;exact Ah λk _=>?rQ
    | succ m ih =>
      intro hm;show ?QR+X l ?qR*U ?qR i=_;rw[?l5,hU ?qR i ?c ?c];omega
   have:=?I (r-?i) ?h;rw[show i+1+(r-?i)=r by omega]at this;ext a3
def a8[?D]{n:Nat}(h:?AZ):∀m,m<=n->?cB<=?gC:=λm hm=>by
 have:∀d,m+d<=n->?cB<=?s1:=by
  intro d
  induction d with
  | zero=>intro _;exact qw3 _
  | succ d ih =>
    intro hd;apply qv4 (?cZ) ?_;show ?s1<=?s1*f ?p7;have p:=Dd (n:=m+d) ?gB;have q:=h ?p7 O9m;have:=qm3 (show 1<=f ?p7 by omega) (?a5J 0 ?s1);rw[qm0]at this;ext a3
 have:=?I (n-m) O9m;rw[show m+(n-m)=n by omega]at this;ext a3
def SQ{w r:Nat}{T:Mat}{E:Nat}(hp:?KS)(h:∀i c,i<r->?RQ)(hE:?CV):?LN:=λi hi s hs=>by
 have t:=zZ (i:=i) (T:=?s9) (λa c ha hac=>by
  show(?UX)=0;by_cases z:c<w
  . ext fG;exact h a c O9m z hac
  . ext cN) s
 have e:(?BV)=det i (?a64 (?s9)):=Dt λa c ha hc=>(?o ?G2).symm;rw[e];apply qa5 t ?_;by_cases z:i<=w
 . have e2:?VT=?HV:=by
    have:∀m,m<=w->?TR=?n ?tO m:=by
     intro m
     induction m with
     | zero=>intro _;rfl
     | succ m ih =>
       intro hm;show _*_=_*_;rw[?l5];show ?a6L _;ext nZ
    exact ?I i z
   rw[e2];have a:=a8 (n:=r) (f:=?t5) hp i hi;have b:=Dd (n:=i) (f:=?t5) λk hk=>?LF;omega
 . have e2:?VT=0:=by
    have:∀m,w<m->?TR=0:=by
     intro m
     induction m with
     | zero=>intro _;omega
     | succ m ih =>
       intro hm;show ?a6L 0;by_cases y:w<m
       . rw[ih y];simp
       . ext d7;simp
    exact ?a07
   rw[e2];exact ?aE
structure F3(n w r:Nat)(E:Nat)(e:Int)(T:Mat):Prop where
 sq:?sF
 low:∀i c,i<n->?RQ
 pos:?KS
 dvd:?pN
 prod:?CV
 le:∀i c,i<n->c<w->?UJ
 red:∀k j,k<j->j<r->0<=T j k/\T j k<?nF
def HU[?nW]{T:Mat}{u:?w}(he:0<e)(sq:?sF)(hst:Du n r ?dN u)(hu:?FK)(hd:?pN)(hE:?CV):?kS:=by
 apply#[sq,λi c hi hc hic=>?_,?a5,hd,hE,λi c hi hc=>nO he ?CU hst hu hd hc hi,λk j hk hj=>by
  have:=hst.red k j hk hj;rw[?a78 hu]at this;ext a3]
 . by_cases z:c<r
   . exact ?gX c i z (by rw[hu c z];exact hic)
   . exact sq.col0 i c hi O9m hc
 . have:=?oI;rw[?a78 hu]at this;ext a3
def E8.going[?nW][?EE](he:0<e)[?k7]:F3 w n r E e (tr T'):=by
 let#[sq,t,hst,ht,hd]:=s.square he h.sq;have pos:∀j,j<r->0<T' j j:=λj hj=>by have:=?oI;rw[?a78 ht]at this;ext a3
 apply HU he ?CU hst ht hd ?_;have rn:=h.sq.rn;have rw':=h.sq.rw;have d:=cL (w:=w) (r:=r) (U:=T') (V:=T) rw' (?a51 ?gX ht) (λl hl=>(s.bwd l O9m).sub rn sq.row0) (λl i hl hi hli=>?eU l i O9m O9m hli);have p:=Dd (n:=r) (f:=?t5) ?a0;exact qv4 (qn3 p d) ?B5
def Xo.going[?nW][?ED](he:0<e)[?k7]:F3 n w r E e Og:=by
 let ?xH:=s;exact s2.going he (s1.going he h)
def Xo.first{n w r:Nat}{E:Nat}{T T' Og:Mat}[?j][?a15](hE:?iT<=E):F3 n w r E (?iT) Og:=by
 let#[hw,sq,u,hu,hu2,hd]:=Xo.square (T:=T) hr hst hz s2;ext a1F;apply HU he sq hu hu2 hd ?_;have d:=cL (w:=n) (r:=r) (U:=tr Og) (V:=λl i=>T' i ?v) hr (?a51 hu.zero hu2) (λl hl=>(?sW ?v (?f6 l hl)).sub hw sq.flip.row0) (λl i hl hi hli=>?UK hi hli);exact qv4 (qn3 he d) hE
def F3.dets[?nW]{T:Mat}[?k7]:?LN:=SQ ?a0 (λi c hi=>?eU i c (by have:=h.sq.rn;omega)) ?B5
abbrev qB(n w r L m:Nat)(T:Mat):Prop:=?m7\/(∃k,k<=r/\?l2/\?RV<=m)\/(∃k,k<r/\?X8/\(r-k-1)*?iF+(?aJ).natAbs.log2+1<=m)
def F3.straight[?nW]{T:Mat}[?k7](c:Ol n w r T):?m7:=λi j hi hj hne=>by
 by_cases z:i<r
 . exact c.2.2.2.1 i j z hj (?yO)
 . exact h.sq.row0 i j O9m hi hj
def log2_lt{a b:Nat}(ha:0<a)(h:a∣b)(hlt:a<b):a.log2<b.log2:=by
 let#[k,hk]:=h
 have k2:2<=k:=by
  rcases k with _ | _ | k
  . omega
  . omega
  . omega
 have b2:2*a<=b:=by
  rw[hk,?P2 2 a];exact qf0 _ k2
 have e:?HQ=a.log2+1:=Nat.log2_two_mul O9m
 have m:?HQ<=b.log2:=by
  rw[Nat.le_log2 ?c];exact ?a73 b2
 omega
def qB.start{n w r L:Nat}{E:Nat}{e:Int}{T:Mat}[?k7]:qB n w r L (r*?iF) T:=?Z (?J #[0,?aE,?SB,by rw[qx8];exact ?b6])
def F3.next{n w r L m:Nat}{E:Nat}{e:Int}{T Og:Mat}(he:0<e)(hL:?X2)[?k7](s:?ZH)(f:?U2)(ns:¬?m7):0<m/\qB n w r L (m-1) Og:=by
 have g:=s.going he h;rcases f with f|⟨k,hk,c,hm⟩|⟨k,hk,c,hm⟩
 . exact ?gZ f ns
 . have kr:k<r:=by
    apply Nat.lt_of_le_of_ne hk λz=>ns ?_;subst z;exact h.straight c
   have e1:?RV=(r-k-1)*?iF+?iF:=by rw[show r-k=(r-k-1)+1 by omega,qf7,qf5,Nat.add_sub_cancel]
   apply ?KJ;let#[c2,q]:=s.next c;rcases q with q | q
   . exact ?J q
   . apply ?Z (?Z #[k,kr,q,?_]);have d:=h.dvd k kr;have d2:=g.dvd k kr;have p:=g.pos k kr
     have l:(?kU).natAbs.log2<=L:=by
      apply qa5 ?_ hL;rw[Nat.le_log2 ?c];apply ?a73 ?_;have:=qn3 he d2;omega
     omega
 . apply ?KJ;rcases s.less c with q|⟨q1,q2,q3⟩
   . apply ?Z (?J #[k+1,O9m,q,?_]);rw[show r-?bT=r-k-1 by omega];omega
   . apply ?Z (?Z #[k,hk,q1,?_]);have p:=g.pos k hk;have p0:=?y5;have:=log2_lt (a:=(?kU).natAbs) (b:=(?aJ).natAbs) O9m (qv3.mpr q2) O9m;omega
universe Lat
namespace Lat
structure EuA[?E6]:Prop where
 e1:r1=x1*A+y1*B
 e2:r2=x2*A+y2*B
 dt:?kI=1\/?kI=-1
 dv:∀d:Int,d∣r1->d∣r2->d∣A/\d∣B
structure EuR[?E6]:Prop where
 a:?B6
 rr:0<=r1*r2
 r0:?vR
 xx:x1*x2<=0
 yy:y1*y2<=0
 lx:?YU
 ly:?I2
def LO{u v:Int}(h:0<=u*v):(u+v).natAbs=u.natAbs+v.natAbs:=by
 rcases ?QD u 0 with z | z | z
 . have:v<=0:=by
    ext hK;have:=?VC z y;omega
   omega
 . subst z;omega
 . have:0<=v:=by
    ext hK;have:=?G4 z y;omega
   omega
def EuR.next_le[?nU][?a36]:?VM:=by
 have r1p:1<=r1.natAbs:=by have:=h.r0;omega
 have hA:A.natAbs=(?WO).natAbs:=by
  have e:(?kI)*A=?WO:=?TF
  rcases h.a.dt with d | d
  . rw[d,qd8]at e;rw[e]
  . rw[d]at e;have:A.natAbs=(-1*A).natAbs:=O9m
    rw[this,e]
 have hB:B.natAbs=(?x3).natAbs:=by
  have e:(?kI)*B=-(?x3):=?TF
  rcases h.a.dt with d | d
  . rw[d,qd8]at e;rw[e,qc7]
  . rw[d]at e;have:B=?x3:=O9m
    rw[this]
 have k1:0<=?NI:=by
  have:?NI=(-(y1*y2))*(r1*r2):=?E
  rw[this];exact qk6 (by have:=h.yy;omega) h.rr
 have k2:0<=?K6:=by
  have:?K6=(-(x1*x2))*(r1*r2):=?E
  rw[this];exact qk6 (by have:=h.xx;omega) h.rr
 rw[LO k1,qb2]at hA;rw[LO k2,qb2]at hB;have a1:x2.natAbs*1<=x2.natAbs*r1.natAbs:=?U7;have a2:y2.natAbs*1<=y2.natAbs*r1.natAbs:=?U7;omega
def EuA.step[?nU](h:?B6)(q:Int):EuA A B r2 x2 y2 (r1-q*r2) (x1-q*x2) (y1-q*y2):=by
 apply#[h.e2,?_,?_,λd h1 h2=>h.dv d ?_ h1]
 . rw[h.e1,h.e2];grind
 . have:x2*(y1-q*y2)-(x1-q*x2)*y2=-(?kI):=?E
   rw[this];rcases h.dt with z | z<;>rw[z]<;>omega
 . have:=?W5 h2 (qt4 (a:=d) (b:=q) h1);have e:r1-q*r2+q*r2=r1:=O9m
   rw[e]at this;ext a3
def cR{r1 r2:Int}(h:0<=r1*r2)(h2:?xN):0<=?dV/\?xA/\0<=r2*(?lK):=by
 have e:?lK=?RN:=?a69 r1 r2
 rw[e];rcases ?SL h2 with z | z
 . have r1n:r1<=0:=by
    ext hK;have:=?G4 y z;omega
   have q:?dV=(-r1).fdiv (-r2):=by rw[Int.neg_fdiv_neg]
   have m:?RN=-((-r1).fmod (-r2)):=?VH
   have m0:=qu5 (a:=-r1) (b:=-r2) O9m;have m1:=qw9 (-r1) (b:=-r2) O9m;apply#[?_,?a6G r2,?_]
   . rw[q,?KE];exact ?S1 O9m O9m
   . rw[m];have:r2*-((-r1).fmod (-r2))=(-r2)*(-r1).fmod (-r2):=by rw[Int.mul_neg,qo4]
     rw[this];exact ?G3
 . have r1p:0<=r1:=by
    ext hK;have:=?VC y z;omega
   have m0:=qu5 (a:=r1) (b:=r2) z;have m1:=qw9 r1 z;apply#[?_,?y9,?G3];rw[?KE];exact ?S1 r1p O9m
def EuR.step[?nU][?a36](h2:?xN):?a4A EuR:=by
 let#[q0,q1,q2]:=cR h.rr h2;let#[l1,l2]:=h.next_le;generalize ?dV=q at *;apply#[#[h.a.step q,q2,h2,?_,?_,l1,l2],q1]
 . have:x2*(x1-q*x2)=x1*x2-?G6:=?E
   rw[this];have a:=h.xx;have b:0<=?G6:=qk6 q0 (by rw[←?LT (a:=x2)];omega);omega
 . have:y2*(y1-q*y2)=y1*y2-?V3:=?E
   rw[this];have a:=h.yy;have b:0<=?V3:=qk6 q0 (by rw[←?LT (a:=y2)];omega);omega
abbrev EuI[?E6]:Prop :=
 ?YJ\/(B<0/\r1=A/\x1=1/\y1=0/\r2=B/\x2=0/\y2=1) ∨
 (B<0/\r1=B/\x1=0/\y1=1/\r2=?qJ/\x2=1/\y2=-(?aG))
def EuI.start{A B:Int}[?EP]:EuI A B A 1 0 B 0 1:=by
 rcases ?SL hB with z | z
 . exact ?Z (?J #[z,rfl,rfl,rfl,rfl,rfl,rfl])
 . apply ?J #[?NX,qk6 O9m O9m,O9m,O9m,O9m,O9m,O9m]
def Rb{A B:Int}(hA:0<A)(hB:B<0):?aG<=-1/\-A<=?aG/\?qJ<=0/\(?qJ).natAbs<B.natAbs:=by
 have e:?qJ=A.fmod B:=?a69 A B
 have m:A.fmod B=-((-A).fmod (-B)):=?VH
 have m0:=qu5 (a:=-A) (b:=-B) O9m;have m1:=qw9 (-A) (b:=-B) O9m;have k:?aG*B=A-A.fmod B:=O9m
 rw[e]
 have q1:?aG<=-1:=by
  ext hK;have:=qk6 (?a5J 0 ?aG) (?a67 B);rw[Int.mul_neg]at this;omega
 apply#[q1,?_,O9m,?a6G B];ext hK;have h:=?a56 (show 1<=-B by omega);have h2:-(?aG)*-B=?aG*B:=by rw[Int.neg_mul_neg]
 rw[h2]at h;have h3:=?a56 (qw3 (-B));rw[h2,qo5]at h3;have h4:A*1<=A*-B:=?HG;omega
def EuI.step[?nU](hA:0<A)[?a35](h2:?xN) :
 ?a4A EuI:=by
 ext a17
 . exact#[?J (?JD).1,(?JD).2]
 . subst e1 e2 e3 e4 e5 e6;let#[_,_,_,q]:=?A2;exact#[?Z (?Z #[hB,rfl,rfl,rfl,rfl,O9m,O9m]),q]
 . let ?GZ:=?A2;ext a18
   have e7:=?JC;rw[←e4]at e7 q3 q4
   have rr:0<=B*r2:=by
    have:=qk6 (?a67 B) (?a67 r2);rw[Int.neg_mul_neg]at this;ext a3
   let#[p0,p1,p2]:=cR rr h2
   have p3:1<=?x0:=by
    ext hK;have:?x0=0:=O9m
    rw[this]at p1;omega
   have f1:?cP-?aG*0=x2:=O9m
   have f2:?dD-?aG*1=y2:=O9m
   rw[f1,f2]at e7;have e8:=e7.step (?x0);subst e1 e2 e3;apply#[?J #[e8,p2,h2,?_,?_,O9m,O9m],p1]
   . subst e5;omega
   . generalize ?dV=p at *;have g1:y2*(1-p*y2)=-((p*y2-1)*y2):=?E
     rw[g1];have g2:1*y2<=p*y2:=qk0 p3 O9m;have:=qk6 (show 0<=p*y2-1 by omega) (?a5J 0 y2);omega
def EuI.all[?nU][?EP][?a35] :
 ?B6/\?vR/\?YU/\?I2/\?VM:=by
 ext a18
 ext a17
 . exact#[h.a,h.r0,h.lx,h.ly,h.next_le.1,h.next_le.2]
 . subst e1 e2 e3 e4 e5 e6;exact#[e0,O9m,O9m,O9m,O9m,O9m]
 . let ?GZ:=?A2;have e7:=?JC;have f1:?cP-?aG*0=x2:=O9m
   have f2:?dD-?aG*1=y2:=O9m
   rw[f1,f2,←e4]at e7;subst e1 e2 e3;exact#[e7,O9m,O9m,O9m,O9m,O9m]
structure Shares(A B g a b:Int):Prop where
 pos:0<g
 e:g=a*A+b*B
 dA:g∣A
 dB:g∣B
 la:a.natAbs<=B.natAbs
 lb:b.natAbs<=A.natAbs
def EuI.last{A B r1 x1 y1 x2 y2:Int}[?EP](h:?a4D EuI 0) :
 (0<r1->?r6 A B r1 x1 y1)/\(r1<0->?r6 A B (-r1) (-x1) (-y1))/\?vR:=by
 let#[k,r0,a1,a2,_,_]:=h.all hA hB;let#[d1,d2]:=k.dv r1 (Int.dvd_refl _) (Int.dvd_zero _);apply#[λp=>#[p,k.e1,d1,d2,a1,a2],λp=>#[O9m,?_,?LB d1,?LB d2,O9m,O9m],r0];rw[k.e1,qo4,qo4];omega
def Shares.blend{A B g a b:Int}{π:Nat}(hA:0<A)(h:?V5)(lA:A.natAbs<=?S)(lB:B.natAbs<=?S):NB π A B a b (-(B / g)) (?h2):=by
 let ?AJ:=h.dA;let#[q,eB]:=h.dB;have g0:g≠0:=?A0
 have k1:?h2=p:=?xU
 have k2:B / g=q:=?Q1
 have gn:1<=g.natAbs:=?A0
 have n1:p.natAbs<=A.natAbs:=by rw[eA,qb2];exact ?QB
 have n2:q.natAbs<=B.natAbs:=by rw[eB,qb2];exact ?QB
 rw[k1,k2];apply#[?_,by have:=h.pos;have:=h.e;omega,?_,qa5 h.la lB,qa5 h.lb lA,O9m,O9m]
 . have e:=h.e
   have:g*(a*p-b*-q)=g*1:=by
    rw[qm0];apply Eq.trans ?_ ?s2;rw[eA,eB]
    grind
   exact Int.eq_of_mul_eq_mul_left g0 ?I
 . rw[eA,eB]
   grind
universe Lat
namespace Lat
open Hb
abbrev Tc(n:Nat)(C:?aL)(δ b:Nat)(R:Mat):Prop:=∀r c,r<n->C c->?i8*?j9<?C
def Se{x y a k:Int}{δ b c:Nat}(hx:?KQ<?C)(hy:?VF<?C)(ha:a.natAbs<=?z)(hk:k.natAbs<=?z):?I3*?j9<2 ^ (b+c+1):=by
 have e:=?WH;rw[qb2,qb2]at e;have e2:=qc0 (?j9) e;rw[qf7,Nat.mul_assoc,Nat.mul_assoc]at e2;have p:0<?z:=qr4 c;have u:a.natAbs*(?KQ)<?z*?C:=qc1 (qc0 _ ha) (qs2 hx p);have v:k.natAbs*(?VF)<?z*?C:=qc1 (qc0 _ hk) (qs2 hy p);rw[?AI,qh2,qe1];omega
def Tc.mono{n δ b b':Nat}[?DW](hb:b<=b'):Tc n C δ b' R:=?W7
def Tc.add{n δ b c p q:Nat}[?DW][?DZ]:Tc n C δ (b+c+1) ?hF:=λr x hr hx=>by
 ext kE
 . subst e;rw[Cl];exact Se (h r x hr hx) (h q x hq hx) (show 1<=?z from ql3) (qe5 hk)
 . rw[Dn e];exact(h.mono O9m) r x hr hx
def Tc.blend{n δ b e p q:Nat}[?DW][?b3][?a16]:Tc n C δ (b+e+1) (?A R p q x y z u):=λr c hr hc=>by
 by_cases e1:r=p
 . subst e1;rw[?dG];exact Se ?jU (h q c hq hc) (qe5 hx) (qe5 hy)
 . by_cases e2:r=q
   . subst e2;rw[Jy];exact Se (h p c hp hc) ?jU (qe5 hz) (qe5 hu)
   . rw[?XU];exact ?a6Y (h.mono O9m)
variable[?e5]
abbrev BB[?d9](C:?aL)(δ β:Nat)[?hO]:Prop:=?cI n W β s.1/\?cI n n β s.2/\Tc n C δ β s.1
def BB.mono{n W β β':Nat}[?e6][?EK](hb:β<=β'):?a37 β' s:=#[h.1.mono hb,h.2.1.mono hb,h.2.2.mono hb]
abbrev addS(p q:Nat)(k:Int)[?hO]:?bR:=(?r s.1 p q k,?r s.2 q p (-k))
abbrev blendS(p q:Nat)(x y z u:Int)[?hO]:?bR:=(?A s.1 p q x y z u,?A s.2 p q u (-z) (-y) x)
def BB.add{n W β c p q:Nat}[?e6][?EK][?e9][?DZ]:?a37 ?OM (?h5 p q k s) :=
 #[(h.1.add hp hq hk).mono O9m,(h.2.1.add hq hp (k:=-k) (by rw[qc7];exact hk)).mono O9m,(h.2.2.add hq hk).mono O9m]
def BB.blend{n W β c p q:Nat}[?e6][?EK][?b3]{x y z u:Int}(hx:?a08)(hy:y.natAbs<?z)(hz:z.natAbs<?z)(hu:u.natAbs<?z):?a37 ?OM (blendS p q x y z u s) :=
 #[(h.1.blend hp hq ne hx hy hz hu).mono O9m,(h.2.1.blend hp hq ne (x:=u) (y:=-z) (z:=-y) (u:=x) hu (by rw[qc7];exact hz) (by rw[qc7];exact hy) hx).mono O9m,(h.2.2.blend hp hq ne hx hy hz hu).mono O9m]
abbrev shrS[?u](p f:Nat)[?hO]:?SN
 | 0=>s
 | d+1=>?h5 p ?e2 (-((?C9).1 p ?nH / (?C9).1 ?e2 ?nH)) (?C9)
def lS[?uZ][?dA][?j]{p f m μ β c:Nat}(P:?oE)[?a1U][?a2M](hc:2 ^ (m-f)*μ<?z)(b:?NJ) :
 ∀d,f+d<=m->QH n W w lo R B t p f m ?e2 μ ?jI (?qM).2/\?a37 (β+d*?b1) (?qM)/\∀l c,l≠p->?jI l c=R l c:=by
 intro d
 induction d with
 | zero=>intro _;exact#[?Q9 h,b.mono O9m,?jG]
 | succ d ih =>
   intro hd;let#[i1,i2,i3]:=?cZ;let ?HL:=i1.step P O9m (show f+d<m by omega) hp hm hn hpf;have e:?P9=R ?e2 ?nH:=i3 _ _ O9m
   have qb:(-(?jI p ?nH / ?P9)).natAbs<?z:=by
    rw[qc7,e];apply qc1 q1 (qc1 ?_ hc);exact ?YB
   apply#[?_,(i2.add O9m O9m qb).mono (?XG),λl c hl=>?_]
   . show QH n W w lo R B t p f m (f+d+1) μ (?r ?jI p ?e2 _) (?r (?qM).2 ?e2 p _);rw[e,qo3];exact q2
   . show ?r ?jI p ?e2 _ l c=_;rw[Dn hl];exact i3 l c hl
def qT[?aK][?dA][?j][?ET][?EF][?DN][?DR][?EB] :
 ∀d,?mC->bS n W w i G R B t b p ?d μ ?fN ?xJ (?oK).2:=by
 intro d
 induction d with
 | zero=>intro _;exact bS.start h
 | succ d ih =>
   intro hd;have i1:=?cZ;let ?HL:=i1.step P hG O9m (show ?t4<i by omega) hn hp;have e:?xJ ?fN (t ?fN)=R ?fN (t ?fN):=i1.s.same _ _ O9m;show bS n W w i G R B t b p ?d μ (?t4+1) (?r ?xJ p ?fN _) (?r (?oK).2 ?fN p _);rw[e,qo3];exact q2
def Th[?aK][?dA][?j]{b p spot μ β c:Nat}[?EF](inc:?wS)[?DN][?DR][?fH][?EB](hc:?zI<?z)[?hJ] :
 aM n W w i G R B t b p ?d μ (?WC).1 (?WC).2/\∀d,?mC->?a37 (β+i*?b1) (?oK):=by
 have r:=qT (W:=W) (w:=w) (B:=B) (b:=b) P h hG hn hp ?aY O9m;rw[show ?vQ+?aY=i by omega]at r;apply#[r.done inc,?pY];have:=(lS (W:=W) (w:=w) (lo:=i+1) (B:=B) P (?ZG) O9m O9m O9m O9m (c:=c) (qc1 (?YB) hc) bb d hd).2.1;apply this.mono ?_;have:=qc0 ?b1 (?a5J d i);omega
universe Lat
namespace Lat
open Hb
variable[?e5]
noncomputable abbrev cS(π i:Nat):Nat:=i+2*π+2
noncomputable abbrev cM(π i:Nat):Nat:=π+2+2*(?JX)
def cD{x π:Nat}(h:x<=?S):x<?l6:=by
 have:1<=?S:=ql3;rw[qh2];omega
def uC{π i μ:Nat}(h:μ<=?b9):?zI<2 ^ ?gA:=by
 have e:2 ^ ?gA=2*(2 ^ i*?b9):=by
  rw[show ?gA=1+(i+(2*π+1)) by unfold cS;omega,qe1,qe1,Nat.pow_one]
 rw[e];have a:=qf0 (2 ^ i) h;have b:1<=2 ^ i*?b9:=by rw[←qe1];exact ql3
 omega
variable[?aK][?fD][?j]{π b spot β:Nat}
def D6.partOf[?fB]{R1:Mat}(e:∀r c,?jR->r<i->?zD=?bO) :
 ?eX R1 t ?t i/\(?wS)/\∀r c,?jR->r<i->G c->?a84 ?zD ?C:=by
 have k:∀r c,?jR->r<i->?zD=?wR:=λr c h1 h2=>(e r c h1 h2).trans (?c9 r c O9m h2);apply#[(H.part.sub ?aN).congr λj c h1 h2=>k j c O9m h2,λl h1 h2=>?jW ?d l ?aN h1 h2,λr c h1 h2 hc=>?_];rw[k r c h1 h2];exact H.rw r c h2 hc
def D6.meetAdd[?fB][?fH][?uE]{q:Int}[?a2Z][?hJ] :
 ?a5L ?ZM ?ZM ∧
 ?a37 ?mQ ?rI/\?a7M i ?rI:=by
 have hn:=H.hi
 have hq:?D3:=by
  have a:=h.pv ?d ?h hs;have p:=?a0 ?d hs;rw[he,qb2]at a;exact qa5 (qi1 _ O9m) a
 have b1:?a37 (?m4) ?rI:=bb.add hn O9m (c:=π+1) (by rw[qc7];exact cD hq);let ?J7:=?zA H (R1:=?SI) λr c h1 h2=>?HA;let#[S,bs]:=Th (n:=n) (W:=W) (w:=w) (G:=G) (B:=(?zC).2) (p:=i) (μ:=?l6) (β:=?m4) (c:=?gA) P inc (h.addPre H hs hq) hG hs hn ?H9 (uC ?cA) b1;apply#[h.metAdd H hs hq hz he ?_,?TN,?a4M bs];have e:(?zC).2=?M1:=by show ?r B ?d i (- -q)=_;rw[qo3]
 rw[←e];exact S
def D6.meetBlend[?fB][?fH][?uE][?DO][?hJ] :
 ?a5L ?FL ?FL ∧
 ?a37 ?mQ ?oQ/\(?a7M ?d ?oQ) ∧
 ?a7M i (?yJ):=by
 have hn:=H.hi;have ne:?BP:=O9m
 have b1:?a37 (?m4) ?oQ:=bb.blend O9m hn ne (c:=π+1) (cD e.lx) (cD e.ly) (cD e.lz) (cD e.lu);let ?VG:=h.blendPre H hs e;let ?J7:=?zA H (R1:=?x2) λr c h1 h2=>?a04;let#[S1,bs1]:=Th (n:=n) (W:=W) (w:=w) (G:=G) (B:=(?vK).2) (p:=spot) (μ:=?b9) (β:=?m4) (c:=?gA) P inc p1 hG hs hn (?J ?h) ?W1 b1;have b2:=bs1 ?aY O9m;generalize hs2:?yJ=s2 at *;have Bp8:?a7T ?d (?x2,(?vK).2)=s2:=hs2;rw[Bp8]at S1 b2;let#[P2,Bo4,hG2]:=?zA H (R1:=s2.1) λr c h1 h2=>by rw[?mJ r c ?c,Ej ?c ?c]
 have p3:∀l,?eL->l<i->(s2.1 i ?v).natAbs<=?b9*(s2.1 l ?v).natAbs:=λl h1 h2=>by
  rw[?mJ i _ ?g4,?XT];exact p2 l h1 h2
 let#[S2,bs2]:=Th (n:=n) (W:=W) (w:=w) (G:=G) (R:=s2.1) (B:=s2.2) (p:=i) (μ:=?b9) (β:=?m4+?JX) (c:=?gA) P2 Bo4 p3 hG2 hs hn ?H9 ?W1 b2;exact#[h.metBlend H hs e hz S1 S2,?TN,?a4M bs1,?a4M bs2]
universe Lat
namespace Lat
open Hb
variable[?e5]
abbrev downS[?u](i:Nat)[?hO]:?SN
 | 0=>s
 | d+1=>?a87 (?dX t i s d) d
def z6[?aK][?fD][?j]{Y β:Nat}(I:XY n W w i G R0 B0 t Y R B)[?dB][?hJ] :
 ∀d,?iC->?L1/\?TV ∧
   (d<=i->∀m,m<=d->?O7):=by
 intro d
 have nxt:∀d,d<=i->?L1->?TV →
  ∀m,m<=d->QH n W w ?i (?eS).1 (?eS).2 t ?aD ?dS ?i (?f4+m) (?qQ) (?vA).1 (?vA).2/\?O7:=by
  intro d hd D b m hm;generalize hs:?eS=s at *;let#[R1,B1]:=s;have P:=D.part;rw[?FT]at P D
  have rel:∀l,?f4<=l->l<i+1->(?IX).natAbs<=?qQ*(?KX).natAbs:=λl h1 h2=>by
   have o:?IX=R ?aD ?v:=D.old ?aD ?v O9m;have p:0<?KX:=?LE l h2;rw[o];apply qa5 (I.gc ?aD ?v O9m (I.pg l O9m)) (qi1 _ O9m)
  have run:=lS (n:=n) (W:=W) (w:=w) (lo:=i+1) (R:=R1) (B:=B1) (p:=i-d) (f:=?f4) (m:=i+1) (μ:=?qQ) (c:=i+1+Y+1) (β:=β+?a4C d Y) P rel O9m ?h hi (?J O9m) (by
   rw[←qe1];exact ?v6) b m O9m
  apply#[run.1,run.2.1.mono ?_];rw[qf7 d 1,qf5];have:=qc0 (i+1+Y+2) (show m<=i+1 by omega);have e:m*(i+1+Y+1+1)=m*(i+1+Y+2):=rfl;omega
 induction d with
 | zero =>
   intro _;have D0:P6 n W w i R B t (i+1-0) (?z7).1 (?z7).2:=P6.start I.s0;have b0:?a7N 0 ?z7:=bb.mono O9m;exact#[D0,b0,λhd m hm=>(nxt 0 hd D0 b0 m hm).2]
 | succ d ih =>
   intro hd;let#[D,b,_]:=?cZ;let#[S,b2]:=nxt d O9m D b d ?h
   have D2:P6 n W w i R B t (i+1-?dJ) (?W6).1 (?W6).2:=by
    rw[show i+1-?dJ=i-d by omega];rw[?FT]at D;rw[show ?f4+d=i+1 by omega]at S;exact D.next O9m S
   exact#[D2,b2,λh m hm=>(nxt ?dJ h D2 b2 m hm).2]
universe Lat
namespace Lat
open Hb
def sumN_cut[?D]{j:Nat}:∀{i:Nat},?c6->(∀k,j<=k->k<i->f k=0)->?f f i=?rK
 | 0,h,_=>by rw[?a3L j 0]
 | i+1,h,hz=>by
   by_cases e:j=i+1
   . rw[e]
   . show ?f f i+f i=_;rw[?MY ?c λk h1 h2=>hz k h1 ?c,hz i ?c ?c];omega
def DT[?D]{m h:Nat}:∀{j:Nat},(∀k,k<j->?AR<=2 ^ k*m*h)->(?rK).natAbs+m*h<=2 ^ j*m*h
 | 0,_=>by show ?KD+m*h<=2 ^ 0*m*h;simp
 | j+1,hf=>by
   have a:=DT (f:=f) (m:=m) (h:=h) (j:=j) λk hk=>hf k O9m;have b:=hf j O9m;have c:=qf3 (?rK) ?lF;show(?rK+f j).natAbs+m*h<=_;rw[qh2];have e:2 ^ j*2*m*h=2 ^ j*m*h+2 ^ j*m*h:=?E
   omega
def Yz{a b:Int}{m:Nat}(h:(a+b).natAbs<=m):b.natAbs<=m+a.natAbs:=by have h5:=Int.natAbs_sub_le (b+a) a;rw[Int.add_sub_cancel,Int.add_comm]at h5;exact qa5 h5 (qq8 h _)
def WR{x s m M K:Nat}(h1:x<=m+s)(h2:s+M<=K)(h3:m*1<=M):x<=K:=O9m
def UG{i:Nat}[?dA][?j](P:?eX R t 0 i){a m:Nat}(h:?a46 ?rZ m):?GU:=by
 intro j
 induction j using Nat.strongRecOn with
 | _ j ih =>
   intro hj;have pj:=P.pos j ?aN hj;have hs:=?a78 h;rw[?MY (j:=j+1) ?c λk h1 h2=>by rw[?BK k _ ?aN h2 (P.inc j k ?aN ?c h2)];simp]at hs;have hs':(?f (?qN) j+?J4).natAbs<=m:=hs
   have b:=DT (f:=?qN) (m:=m) (h:=?eD) (j:=j) λk hk=>by
    rw[qb2];let#[r1,r2]:=P.red k j ?aN hk hj;exact qf4 (ih k hk O9m) O9m
   have c:(?J4).natAbs<=2 ^ j*m*?eD:=by
    exact WR (Yz hs') b (?D5)
   rw[qb2]at c;exact qs3 c O9m
def Ee.backs[?aK][?uY][?j][?hI](hi:?hU){a m:Nat}(hb:∀k,i<=k->B k a=?IV)(hM:?a46 ?C5 m)(hM2:?a46 ?tP m)(ha:i<=a->a<n->∀j,j<i->?C5=?tP):?GU:=by
 apply UG ?DH ?a5;have e:?LL=?C5:=h.good.pt a ?L
 have s:?LL=?rZ+(if ?OU then ?tP else 0):=by
  have:∀d,i+d<=n->?UW=?rZ+(if ?Z8 then ?tP else 0):=by
   intro d
   induction d with
   | zero=>intro _;ext d7;show ?f _ i=_;omega
   | succ d ih =>
     intro hd;show ?UW+B ?lJ a*R ?lJ ?L=_;rw[?l5,hb ?lJ ?c,?qT ?lJ _ ?c];by_cases z:i+d=a
     . subst z;rw[?s,?q,?N];omega
     . ext cN;by_cases y:?Z8
       . ext u8;omega
       . ext u7;omega
  have:=?I (n-i) O9m;rw[show i+(n-i)=n by omega]at this;ext a3
 by_cases z:?OU
 . rw[?dO,e,ha z.1 z.2 j hj]at s;have:?rZ=0:=O9m
   rw[this];exact ?aE
 . rw[?eR,qf6]at s;rw[←s,e];exact ?a78 hM
def qS[?j][?fI](inc:?a5N n):?ME:=by
 have:?PR:=by
  intro m
  induction m with
  | zero=>ext a20
  | succ m ih =>
    ext a21
    . have hrm:r=m:=by
       ext a27;have:=inc r m y O9m;omega
      exact#[m+1,?b6,λj hj=>by
       by_cases q:j=m
       . rw[q];exact z
       . exact b j O9m,?wI]
    . exact#[r,O9m,b,λj h1 h2=>by
       by_cases q:j=m
       . rw[q];omega
       . exact ?Q4]
 exact ?MJ
def Ee.first{n W w D:Nat}[?bW][?j](hD:P7 n G M D)[?E7] :
 ∃r,?bC/\?NU/\(?FH)/\So n W w r t ?nQ R/\?RG<=D/\?U4:=by
 let#[r,hr,h1,h2]:=qS (w:=w) ?l7;have pos:∀k,k<n->0<?nQ k:=λk hk=>?mP k hk;apply#[r,hr,?JV,?US,#[λj c _ a b=>?sX j c a b,λj k _ a b=>?l7 j k a b,h2,λj _ a=>?gP j a,λj _ _=>rfl,λj _ a=>?mP j a,λk j _ a b=>?pX k j a b],?_,?a5]
 . have a:=a8 (n:=n) pos r hr;have b:=?B1 hD ?h (s:=t) h.pg;rw[CM ?zW]at b;have c:=Dd (n:=n) pos;omega
 . have:=h.headD hD ?h hj;have:=?QM;omega
variable[?e5]
def addS_zero(p q:Nat)[?hO]:?h5 p q (-0) s=s:=by
 unfold addS;rw[?QJ,?QJ,DG,DG]
def gF[?j]{p f:Nat}[?e6]:∀m,(∀j,?fY->j<f+m->s.1 p ?L / ?yL=0)->?s0=s
 | 0,_=>rfl
 | m+1,h=>by
   have ih:=gF (t:=t) (p:=p) (f:=f) (s:=s) m λj h1 h2=>h j h1 O9m;show ?h5 p ?kR (-((?s0).1 p (t ?kR) / (?s0).1 ?kR (t ?kR))) (?s0)=s;rw[ih,h ?kR ?c ?c,addS_zero]
structure Am0(i:Nat)[?u](R:Mat):Prop where
 inc:∀j,j<i->t j<t i
 zero:∀x,x<t i->?mL=0
 pos:∀j,?c6->?kO
 red:∀k j,k<j->j<i->?vB
abbrev Lw(R:Mat)[?u](i k:Nat):Int:=R k ?d4 / R i ?d4
structure Pw(n i β c:Nat)[?u][?W](d:Nat)[?hO]:Prop where
 rows:∀r x,s.1 r x=if ?y2 then ?nS+-(?rG)*?mL else ?nS
 old:∀r x,?p2->s.2 r x=B r x
 back:∀x,x<n->(s.2 i x).natAbs<=?m9*?dJ
def Pw.step{n i β c:Nat}[?j][?dA]{d:Nat}[?e6](L:?LX)(bb:?NZ)[?DS](hd:d<i+1)(h:?YK) :
 ?a4R ?dJ (?a87 s d)/\?F2:=by
 have own:∀x,s.1 ?aD x=R ?aD x:=?R0
 have ri:∀x,s.1 i x=?mL:=?R0
 have hdj:∀j,?c6->?yL=?aF:=λj hj=>by
  rw[h.rows];by_cases z:?rO<=j/\j<i
  . rw[?dO,L.zero ?L (L.inc j z.2)];simp
  . ext cN
 have zq:∀m,m<d->∀j,?f4<=j->j<?f4+m->s.1 ?aD ?L / ?yL=0:=λm hm j h1 h2=>by
  rw[own,hdj j ?c];let ?kY:=L.red ?aD j O9m O9m;exact Int.ediv_eq_zero_of_lt a b
 have zs:?F2:=λm hm=>gF m (zq m hm);apply#[?_,zs];by_cases d0:d=0
 . subst d0;show ?a4R 1 s;apply#[?CF,?c9,λx hx=>qa5 (?zM) (?D5)];rw[h.rows,?q,?q]
 . obtain⟨e,rfl⟩:∃e,d=e+1:=#[d-1,O9m]
   have last:?Q t ?cX (i-(e+1)+1) s (e+1)=?h5 ?cX i (-(?qC)) s:=by
    show ?h5 _ (i-(e+1)+1+e) _ (?Q t ?cX (i-(e+1)+1) s e)=_;rw[zs e ?c,show i-(e+1)+1+e=i by omega,own,hdj i ?h];rfl
   rw[last];apply#[?CF,λr x hr=>?_,?pF]
   . show ?r s.1 ?cX i _ r x=_;by_cases z:r=i-(e+1)
     . subst z;rw[Cl,own,ri,?N,qd8]
     . rw[Dn z,h.rows];by_cases y:i+1-(e+1)<=r/\r<i
       . ext u8
       . ext u7
   . show ?r s.2 i ?cX _ r x=_;rw[Dn hr];exact ?c9 r x hr
   . show(?r s.2 i ?cX (- -(?qC)) i x).natAbs<=_;rw[Cl,qd8,qo3,?c9 ?cX x ?c];have a:=?zM;have b:=qf3 (s.2 i x) (?qC*B ?cX x);rw[qb2]at b;have m:(?qC).natAbs*(B ?cX x).natAbs<=?z*?d3:=qf4 (qe5 (hq _ O9m)) (qe5 (bb _ _ O9m hx));rw[←qe1,?JY]at m;rw[Nat.mul_add _ (e+1+1) 1,Nat.mul_one];omega
def sW{n W i β c:Nat}[?j][?dA](L:?LX)[?hJ][?DS] :
 ∀d,?iC->?a4R d (?eS):=by
 intro d
 induction d with
 | zero =>
   intro _;apply#[?CF,?jG,?pF]
   . ext d7;rfl
   . show ?R2<=_;have a:?R2<?d3:=?q6 i x hi hx;have p:?ZB:=?h4;omega
 | succ d ih =>
   intro hd;exact((?cZ).step L ?q6 hq hi O9m).1
def Pw.bits{n W i β c:Nat}[?j][?dA]{d:Nat}[?e6][?hJ][?DS](hd:?iC)(h:?YK):?a37 (β+(c+i+3)) s:=by
 apply#[?BO,?BO,?BO]
 . rw[h.rows];by_cases z:?y2
   . ext fG;have e:=qf3 (?nS) (-(?rG)*?mL);rw[qb2,qc7]at e;have a:=?GL;have b:=bb.1 i x hi hx;have m:(?rG).natAbs*(?mL).natAbs<=?z*?d3:=qf4 (qe5 (hq r z.2)) (qe5 b);rw[←qe1,?JY]at m;have p:?ZB:=?h4
     have q:4*?m9<=?a7K β (c+i+3):=by
      have e4:4*?m9=?a7K 2 ?yH:=by rw[qe1 2 2 ?yH]
      rw[e4];exact ?h4
     have a':?P1<?d3:=a;omega
   . ext cN;exact qb5 (?GL) ?cA
 . by_cases z:r=i
   . subst z;have a:=?zM
     have l:d+1<?a7K r 2:=by
      have:=qr5 (n:=r+2);omega
     apply qc1 a ?_;have e4:?a7K β (c+r+3)=?m9*?a7K r 3:=?CD
     rw[e4];apply qs2 ?_ ql3;exact qb5 l ?cA
   . rw[?c9 r x z];exact qb5 (?q6 r x hr hx) ?cA
 . rw[h.rows];by_cases z:?y2
   . ext fG;have:=Se (a:=1) (k:=-(?rG)) (c:=c) (bb.2.2 r x hr hx) (bb.2.2 i x hi hx) (show 1<=?z from ql3) (by rw[qc7];exact qe5 (hq r z.2));rw[qd8]at this;exact qb5 ?I ?cA
   . ext cN;exact qb5 (bb.2.2 r x hr hx) ?cA
universe Lat
namespace Lat
open Hb
variable[?e5]
def fdiv_small{x h:Int}{c:Nat}(hh:0<h)(hx:?a08):?UD<?z:=by
 have:=MK (x:=x) (h:=h) (K:=x.natAbs) hh (qi1 _ O9m);omega
def Ee.putB{n W w i β:Nat}[?bW][?j][?hI][?dB][?uP](bb:?a6I β R):Kr n W w i G R B t β β :=
 #[hi,?DH,?gP,λj hj=>qe5 (bb j _ O9m (?a78 ?gP)),λr c hr hc=>qe5 (bb r c O9m (zC c hc)),λc hc=>qe5 (bb i c hi (zC c hc)),λl hl=>qe5 (bb i _ hi (?gP l hl))]
def Ci.last{n W w r i β c:Nat}[?bW][?d6][?nT](hn:i<n)[?uP](hG:G ?eJ)[?hJ](hc:∀k,k<i->(R k ?eJ).natAbs<?z) :
 Ci n W w r ?i G M B0 kt hd ?bL (?MI).1 (?MI).2 ∧
 (∀d,?iC->Pw n i β c ?bL R B d (?oR)/\?a37 (β+(c+i+3)) (?oR)) ∧
 (∀d,d<i+1->∀m,m<d->?Q ?bL ?aD ?dS (?oR) m=?oR):=by
 have H:=h.st.putB hn zC bb.1;let#[I,_]:=h.ins K hi H hG;have D:=(z6 I hn bb ?i ?h).1;rw[qh8]at D;ext a1M;ext DI
 have L:Am0 i ?bL R:=#[λj hj=>I.s0.inc j i hj O9m,λx hx=>I.s0.zero i x O9m hx,?a66 I.s0.pos,λk j h1 h2=>by rw[t1 j h2];exact ?PW k j h1 h2]
 have hq:∀k,k<i->?WS<?z:=λk hk=>?FU (L.pos i ?h) (by rw[t2];exact hc k hk);have run:=sW L bb hq hn;exact#[h.nextK K hi hn I D,λd hd=>#[?zU,(?zU).bits bb hq hn hd],λd hd=>((?MU).step L ?q6 hq hn hd).2]
abbrev dI(n r i:Nat)(kt:?w)(c:Nat)(R:Mat):Prop:=∀k j,k<i->i<=j->j<n->(R k ?eF).natAbs<?z
def Ci.above{n W w r i β c η:Nat}[?bW][?d6][?e6][?nT](hn:i<n)(hη:∀j,?aO->j<n->?IZ)(a:dI n r i kt c R)(l:Pw n i β c ?bL R B ?i s):dI n r ?i kt (c+η+1) s.1:=λk j h1 h2 h3=>by
 ext DI
 have mi:(R i ?eF).natAbs<?jH:=by
  ext E2;let#[m1,m2]:=K.red i j O9m O9m h3;have:=hη j O9m h3;omega
 have p1:?jH<=?ZA:=?h4;have p2:?z<=?ZA:=?h4;rw[l.rows,qh2];by_cases z:i+1-?i<=k/\k<i
 . ext fG;have e:=qf3 (R k ?eF) (-(?TI)*R i ?eF);rw[qb2,qc7]at e
   have q:?WS<=?z:=by
    unfold Lw;rw[t2];have p:0<R i ?eJ:=by rw[?KP,?WV];exact ?q7 i hi hn
    exact qe5 (?FU p (a k i z.2 ?h hn))
   have m:=qf4 q (qe5 mi);rw[←qe1]at m;have b:=a k j z.2 O9m h3;omega
 . ext cN;have:k=i:=O9m
   subst this;omega
universe Lat
namespace Lat
open Hb
abbrev put2[?K](i j:Nat)(x y:Int):?k:=λk=>if k=i then x else if k=j then y else f k
def Tx[?K](i j:Nat)(x y:Int):?eY f i j x y i=x:=?s
def Tw{i j:Nat}[?K](h:?dP)(x y:Int):?eY f i j x y j=y:=by unfold put2;rw[?a7V h,?s]
def Kt{i j k:Nat}[?K](h1:k≠i)(h2:k≠j)(x y:Int):?eY f i j x y k=f k:=by unfold put2;rw[?gN,?eI]
structure A89(o t g r:Int):Prop where
 go:g∣o
 gt:g∣t
 tr:t∣r
 pr:g*r=o*t
 all:∀d:Int,d∣o->d∣t->d∣g
def Shares.pair{A B g a b:Int}(h:?V5):A89 A B g (?h2*B):=by
 let ?AJ:=h.dA;have g0:g≠0:=?A0
 have k1:?h2=p:=?xU
 apply#[h.dA,h.dB,#[?h2,?rQ],?_,λd h1 h2=>?_]
 . rw[k1,←qe0,←eA]
 . rw[h.e];exact ?W5 (qt4 h1) (qt4 h2)
abbrev ChainTo(m i:Nat)[?K]:Prop:=∀a b,a<i->a<b->b<m->f a∣f b
abbrev ChainAt(m i j:Nat)[?K]:Prop:=?OI/\∀b,i<b->b<j->f i∣f b
def ChainAt.step{m i j:Nat}[?D]{g r:Int}(h:?SQ)[?ES](p:A89 ?cD ?lF g r):?nJ m i ?P (?eY f i j g r):=by
 have ne:?dP:=O9m
 apply#[λa b ha hab hb=>?_,λb hb hbj=>?_]
 . rw[Kt f (?a3C a i) (?a3C a j)];have d1:=h.1 a i ha ha O9m;have d2:=h.1 a j ha O9m hj;by_cases e1:b=i
   . rw[e1,Tx];exact p.all _ d1 d2
   . by_cases e2:b=j
     . rw[e2,?fM];exact qx0 d2 p.tr
     . rw[?MG];exact h.1 a b ha hab hb
 . rw[Tx];by_cases e2:b=j
   . rw[e2,?fM];exact qx0 p.gt p.tr
   . rw[Kt f ?c e2];exact qx0 p.go (?HS)
def ChainAt.skip{m i j:Nat}[?D](h:?SQ)(d:f i∣f j):?nJ m i ?P f:=#[h.1,λb hb hbj=>by
 by_cases e:b=j
 . rw[e];exact d
 . exact ?HS]
def ChainTo.at{m i:Nat}[?D](h:?OI):?nJ m i ?i f:=#[h,λb h1 h2=>O9m]
def ChainAt.next{m i:Nat}[?D](h:?nJ m i m f):ChainTo m ?i f:=λa b ha hab hb=>by
 by_cases e:a=i
 . rw[e]at hab ⊢;exact h.2 b hab hb
 . exact h.1 a b O9m hab hb
def Wt{f f':?k}{i:Nat}:∀{m:Nat},i<m->(∀k,k<m->k≠i->f' k=f k)->?pH*f i=?cB*f' i
 | m+1,hi,h=>by
   show ?pH*f' m*f i=?cB*f m*f' i;by_cases e:i=m
   . subst e
     have:?n f' i=?n f i:=by
      have:∀l,l<=i->?UE=?n f l:=by
       intro l
       induction l with
       | zero=>intro _;rfl
       | succ l ih=>intro hl;show ?UE*f' l=?n f l*f l;rw[?l5,h l ?c ?c]
      exact ?I i ?h
     rw[this]
     grind
   . have ih:=Wt (f:=f) (f':=f') (i:=i) (m:=m) O9m ?gB;rw[h m ?c (?iM)];have:?pH*f m*f i=?pH*f i*f m:=?E
     rw[this,ih]
     grind
def NW[?D]{i j m:Nat}{x y:Int}[?ES](h0:f i≠0)(hj0:f j≠0)(e:x*y=f i*f j):?tS=?cB:=by
 have ne:?dP:=O9m
 have a:=Wt (f:=f) (f':=?C8) (i:=i) (m:=m) O9m λk hk hne=>by
  by_cases z:k=j
  . rw[z,?fM]
  . exact Kt f hne z ..
 have b:=Wt (f:=?C8) (f':=?YZ) (i:=j) (m:=m) hj λk hk hne=>by
  by_cases z:k=i
  . rw[z,Tx,Tx]
  . rw[?SC,?SC]
 rw[Tx]at a;rw[?fM,?fM]at b
 have c:?tS*(f j*f i)=?cB*(f j*f i):=by
  have:?tS*(f j*f i)=(?tS*f j)*f i:=?E
  rw[this,b];have:?TE*y*f i=(?TE*f i)*y:=?E
  rw[this,a];have:?cB*x*y=?cB*(x*y):=?E
  rw[this,e]
  grind
 exact Int.eq_of_mul_eq_mul_right (Int.mul_ne_zero hj0 h0) c
structure Bil(β:?HI):Prop where
 l:∀u v y a b,β ?oF y=a*β u y+b*β v y
 r:∀x u v a b,β x ?oF=a*β x u+b*β x v
def DP{β:?HI}(hb:Bil β){P Q:Mat}[?D]{i j n w:Nat}(ne:?dP)(hin:i<n)(hjn:j<n)(hiw:i<w)(hjw:j<w)(h:∀x y,x<n->y<w->β (P x) (Q y)=?I6)[?a2R] :
 ∀x y,x<n->y<w->β (?r ?m6 j i (-(b*f j / g)) x) (?A Q i j a b (-(f j / g)) (?dL) y)=if x=y then ?eY f i j g (?dL*f j) x else 0:=by
 let ?AJ:=S.dA;let#[q,eB]:=S.dB;have g0:g≠0:=by have:=S.pos;omega
 have k1:?dL=p:=?xU
 have k2:f j / g=q:=?Q1
 have k3:b*f j / g=b*q:=by rw[eB,show b*(g*q)=g*(b*q) by grind];ext kG
 have e0:=S.e;have ne':j≠i:=?w5;rw[k1,k2,k3];have pi:?a7H i=?JN:=by rw[?gL ne,Oe]
 have pj:?a7H j=λc=>1*P j c+?p3*(?JN) c:=by
  rw[Oe,?gL ne',Oe]
 have po:∀x,x≠i->x≠j->?a7H x=P x:=λx h1 h2=>by rw[?gL h2,?gL h1]
 have ii:=h i i hin hiw;have ij:=h i j hin hjw;have ji:=h j i hjn hiw;have jj:=h j j hjn hjw;rw[?s]at ii jj;rw[?n5]at ij;rw[?g ne']at ji;intro x y hx hy;by_cases y1:y=i
 . subst y1;rw[?lX];by_cases x1:x=y
   . subst x1;rw[?s,Tx,pi,hb.l,hb.r,hb.r,ii,ij,ji,jj]
     grind
   . rw[?CN];by_cases x2:x=j
     . subst x2;rw[pj,hb.l,hb.l,hb.r,hb.r,ii,ij,ji,jj];have:1*(a*0+?mV)+-(b*q)*(1*(a*f y+b*0)+1*(a*0+?mV))=?mV-b*q*(a*f y+?mV):=?E
       rw[this,←e0];have:?mV=b*(g*q):=by rw[←eB]
       rw[this]
       grind
     . rw[?x9,hb.r,?l8,h x j hx hjw,?CN,?B2];simp
 . by_cases y2:y=j
   . subst y2;rw[blend_row_q];by_cases x1:x=i
     . subst x1;rw[?n5,pi,hb.l,hb.r,hb.r,ii,ij,ji,jj];have:1*(-q*f x+p*0)+1*(-q*0+p*f y)=p*f y-q*f x:=?E
       rw[this,eA,eB]
       grind
     . by_cases x2:x=y
       . subst x2;rw[?s,?fM,pj,hb.l,hb.l,hb.r,hb.r,ii,ij,ji,jj];have:1*(-q*0+p*f x)+-(b*q)*(1*(-q*f i+p*0)+1*(-q*0+p*f x))=p*f x-b*q*(?SM):=?E
         rw[this];have:?SM=0:=by rw[eA,eB];grind
         rw[this];omega
       . rw[?B2,?x9,hb.r,h x i hx hiw,?l8,?CN,?B2];simp
   . rw[?v4 y1 y2];by_cases x1:x=i
     . subst x1;rw[?DE,pi,hb.l,?l8,h j y hjn hy,?DE,?wN];simp
     . by_cases x2:x=j
       . subst x2;rw[?wN,pj,hb.l,hb.l,?l8,h i y hin hy,?wN,?DE];simp
       . rw[?x9,?l8];by_cases e:x=y
         . rw[?bK,?bK,Kt f x1 x2]
         . rw[?bN,?bN]
abbrev P8[?b5](A:Mat)(p q:?k):Int:=?f (λa=>p a*?f (λb=>?CG) w) n
def MR[?b5](A:Mat):Bil (P8 n w A):=by
 apply#[λu v y a b=>?_,λx u v a b=>?_]
 . unfold P8;ext k4;exact Ah λk _=>?E
 . unfold P8;ext k4;apply ?BZ
   have:?f (λc=>A k c*(?y1)) w=a*?f (λc=>A k c*u c) w+b*?f (λc=>A k c*v c) w:=by
    ext k4;exact Ah λc _=>?E
   rw[this]
   grind
def Xl[?fI]{A:Mat}{p p' q q':?k}(hp:∀a,a<n->p a=p' a)(hq:∀b,b<w->q b=q' b):?KI=?a3Q p' q':=by
 unfold P8;apply Ah ?ZK;rw[hp a ha,Ah λb hb=>by rw[hq b hb]]
def Oc[?b5](A:Mat)(p q:?k):?KI=P8 w n ?tQ q p:=by
 unfold P8;rw[show(λa=>p a*?f (λb=>?CG) w)=λa=>?f (λb=>p a*(?CG)) w from ?aH λa=>(Ay ..).symm];rw[B5];apply Ah λb _=>?_;rw[←Ay];exact Ah λa _=>?E
def FL[?fI]{A:Mat}{x:?k}{U:Mat}{q:?k}:∀m,P8 n w A (λc=>?q8) q=?zK
 | 0=>by
   show ?a3Q (?cT) q=0;unfold P8;exact ?U λa _=>?cF
 | m+1=>by
   have e:(λc=>?a3G ?gK ?mR)=λc=>1*(λc=>?q8) c+?zH:=?aH λc=>by
    show ?q8+?zH=1*?q8+?zH;omega
   rw[e,(?ZF).l,FL m];show 1*?zK+x m*?a3Q (U m) q=?zK+x m*?a3Q (U m) q;omega
abbrev QA[?b5](A Q M:Mat):Prop:=∀k c,k<n->c<w->M k c=?a3Q (λa=>M k ?dU) ?g1
def QA.rows{n w W:Nat}{A Q M R:Mat}(h:?MS)(hW:?AT)(e:∀i,i<n->In W n M (R i)):?TW:=λi c hi hc=>by
 let ?a1:=e i hi;rw[?M8];have:?a3Q (λa=>R i ?dU) ?g1=P8 n w A (λa=>?f (λk=>x k*(λk a=>M k ?dU) k a) n) ?g1:=Xl (λa ha=>hx ?dU O9m) ?jM;rw[this,FL];exact Ah λk hk=>by rw[?C7]
def Ee.told{n W w:Nat}[?oA]{A Q M B0 R B:Mat}[?j][?E7](hW:?AT)(k:?MS):?TW:=k.rows hW (?MQ).1
abbrev beside(w:Nat)(T P:Mat):Mat:=λr c=>if c<w then T r c else P r (c-w)
def beside_lo{w:Nat}{T P:Mat}{r c:Nat}(h:c<w):?B w T P r c=T r c:=?qL
def beside_hi(w:Nat)(T P:Mat)(r a:Nat):?B w T P r ?dU=P r a:=by unfold beside;rw[?q,Nat.add_sub_cancel_left]
def Qa[?a1I]:QA n w A Q ?cS:=λk c hk hc=>by
 rw[?q5,?C7];exact Xl (λa _=>(beside_hi w T P k a).symm) ?jM
def Wb[?a1I]:∀c k,c<w->k<n->tr T c k=P8 w n ?tQ ?g1 (P k):=λc k hc hk=>by
 show ?cC=_;rw[?C7,Oc]
variable[?e5]
abbrev Gq(π b i:Nat):Nat:=i*?n6+?a4C ?i ?fP
abbrev Ep(π b:Nat):?w
 | 0=>0
 | i+1=>?QS+?qB
abbrev Sh(c η r:Nat):?w
 | 0=>0
 | d+1=>?JO+(c+d*(η+1)+(r+d)+3)
universe Lat
namespace Lat
open Hb
variable[?e5]
def Ci.wide[?kC]{G G':?aL}[?uY][?d6][?a2Y](hG:∀c,G c->G' c):?a47 G' M:=#[#[h.st.good,h.st.st,λj hj=>hG _ (?a78 h.st.pg)],?oV,?lZ]
def UH{n W r β:Nat}[?v0][?e6](b:?XL)(hr:?bC)(hC:∀j,?aO->j<n->C ?eF)(hδ:δ<=β):dI n r r kt (β-δ) s.1:=λk j h1 h2 h3=>by
 have:=b.2.2 k ?eF O9m (hC j h2 h3);have e:?d3=2 ^ (β-δ)*?j9:=?CD
 rw[e]at this;exact Nat.lt_of_mul_lt_mul_right ?I
abbrev moveS(i s:Nat)(x:?bR):?bR:=(?R x.1 i s,?R x.2 i s)
abbrev OF(p:Nat)(x:?bR):?bR:=(Hw x.1 p,Hw x.2 p)
def Af1{n i s r:Nat}[?hM](hr:r<n):?A8<n:=?B0
def BB.move{n W β i s:Nat}[?E0][?hM]:?a37 β (moveS i s x) :=
 #[h.1.move hi hs,h.2.1.move hi hs,λr c hr hc=>by show(?R x.1 i s r c).natAbs*_<_;rw[move_row];exact h.2.2 _ c (Af1 hi hs hr) hc]
def BB.neg{n W β p:Nat}[?E0]:?a37 β (OF p x) :=
 #[h.1.neg,h.2.1.neg,λr c hr hc=>by
  show(Hw x.1 p r c).natAbs*_<_;unfold Hw;ext kE
  . subst e;rw[Bp,qc7];exact ?LJ
  . rw[?gG];exact ?LJ]
abbrev insS(i spot st:Nat)(x:?bR):?bR:=if (?B9).1 ?d st<0 then OF ?d (?B9) else ?B9
def Ag7(i spot st:Nat)[?W]:?BL=?WF:=by
 ext a24
 . ext fG;ext a0S;ext fG;rfl
 . ext cN;ext a0S;ext cN;rfl
def Ag6(i spot st:Nat)[?W]:?CS=?GX:=by
 ext a24
 . ext fG;ext a0T;ext fG;rfl
 . ext cN;ext a0T;ext cN;rfl
def BB.ins{n W β i spot st:Nat}[?E0][?dB](hs:?j0):?a37 β (insS i ?d st x):=by
 unfold insS;split
 . exact(?GH).neg
 . exact ?GH
def vU{n W w i β:Nat}[?oA][?fD][?j]{π b spot st:Nat}(H:?w3)(p:?AD)[?a0R](bb:?a37 (β+spot*?n6) ?aP) :
 XY n W w i G R0 B0 ?cR ?fP ?BL ?CS ∧
 P6 n W w i ?BL ?CS ?cR 0 (?JU).1 (?JU).2 ∧
 ?H6 ∧
 (∀d,?iC->?a37 (β+?qB) (?a80 d)) ∧
 (∀d,d<=i->∀m,m<=d->?a37 (β+?qB) (?Q ?cR ?aD ?dS (?a80 d) m)):=by
 have I:=p.ins H hs h0 h1 hW hG hpg hex;rw[←Ag7,←Ag6]at I;have b1:?H6:=(bb.mono (by have:=qc0 (?n6) hs;omega)).ins ?c4 hs;have run:=z6 (β:=?vP) I ?c4 b1
 have up:∀d,?iC->?vP+?a4C d ?fP<=β+?qB:=λd hd=>by
  unfold Gq;have:=qc0 (?i*(i+1+?fP+2)) hd;omega
 apply#[I,?_,b1,λd hd=>(?zU).2.1.mono (up d hd),λd hd m hm=>((?MU).2.2 hd m hm).mono (up ?dJ O9m)];have D:=(run ?i ?h).1;rw[qh8]at D;exact D
universe Lat
namespace Lat
open Hb
variable[?e5]
def Yb{w m D:Nat}{T P:Mat}(h:P7 m ?nC T D):P7 m ?nC ?cS D:=λi hi s hs=>by
 have e:(det i λr l=>?B w T P r ?bA)=?BV:=Dt λr c _ hc=>?wE ?G2;rw[e];exact h i hi s hs
def In.cols{w n:Nat}{R R':Mat}{u v:?k}(h:?PV)(hR:?a5F ?jD R')(hu:?SR):?a6A R' v:=by
 let ?a1:=h;exact#[x,λc hc=>by rw[←hu c hc,?f0];exact Ah λk hk=>by rw[hR k c hk hc]]
def E8.cols[?fI]{T T' S S':Mat}(h:?BQ)(e:?a5F ?cC S)(e':?a5F ?w6 S'):E8 n w S S':=by
 let#[r,t,hr,st,hz]:=h.st;apply#[λi hi=>(h.fwd i hi).cols e (?a6N e'),λi hi=>(h.bwd i hi).cols e' (?a6N e),r,t,hr,#[st.lt,st.inc,?fZ,?a5,λk j hk hj=>?_],λi c h1 h2 h3=>by rw[←e' i c h2 h3];exact hz i c h1 h2 h3]
 . rw[←e' j c ?c (by have:=?B7;omega)];exact st.zero j c hj hc
 . rw[←?XC];exact ?J0
 . rw[←e' k _ ?c (?B7),←?XC];exact st.red k j hk hj
def OL{n W w r i E π b:Nat}{e:Int}{T P B0 R B:Mat}[?d6](g:?kS)(hW:w<=W)(h:?a47 ?nC ?cS)(hi:i<r)(hE:E<=?S)(he:e.natAbs<=?S)(hb:i*E<=?C)(hπ:π<=b):?a54 ?nC:=by
 have rn:=g.sq.rn;apply h.st.putD (Yb g.dets) O9m O9m (λc hc=>O9m) (b0:=π) (?dF) hE hb ?h hπ;rw[?q5];let ?L0:=?a79 g.le i;omega
def Pf{n w r E:Nat}{e:Int}[?oA]{A Q T P B0 R B:Mat}[?d6](he:0<e)(g:?kS)(K:?a3X ?f1 ?cS)(h:?a7G ?f1 ?cS)(k:?PM) :
 ?R9/\F3 w n r E e ?fX/\?a3X ?f1 R/\?a7Y R (λa=>R x ?dU):=by
 have s:?R9:=?a61 h.st.rows;exact#[s,s.going he g,h.done K,h.st.told ?h (Qa k)]
universe Lat
namespace Lat
open Hb
variable[?e5]
def pB{n W w i D π b b0:Nat}[?uY][?j][?a1J][?a2W][?dB][?a28]:?a54 (λc=>c<W) :=
 h.putD hD O9m hi (λ_ hc=>hc) (?a6N hM) h1 h2 h3 h4
def Ua{n W w i D b b0 β:Nat}[?uY][?j][?a1J](hB:∀k a,B0 k a=?IV)[?a2W](hi:?hU)(h2:?MO)(h4:b0<=b)(hβ:b<β)(hβ2:n+b0<β):BB n W (λ_=>False) 0 β ?aP:=by
 apply#[?eZ,λr a hr ha=>?_,λ_ _ _ z=>z.elim]
 . have le:?WZ:=by
    by_cases z:r<i
    . exact qa5 (h.rowD hD hi (λ_ hc=>hc) z hc) h2
    . rw[?qT r c ?c];exact qa5 (?a6Y hM) (Dp h4)
   exact qc1 le (qg8 ?T hβ)
 . have pM:∀x,x<n->∀c,pT n B0 M x c=M x c:=λx hx c=>by
    show ?f (λk=>B0 k x*M k c) n=M x c;rw[?a9 (j:=x) hx λk _ hne=>by rw[hB,?CB];simp,hB,?s,qd8]
   by_cases z:r<i
   . have:=h.backs hi (a:=a) (m:=?DG) (λk hk=>by rw[?OD k a hk,hB]) (λj hj=>by rw[pM a ha];exact ?L7) (λj hj=>?L7) (λ_ _ j _=>pM a ha _) r z;rw[←qe1]at this;exact qc1 ?I (?v6)
   . show(B r a).natAbs<?d3;rw[?OD r a ?c,hB];have:1<?d3:=Nat.one_lt_two_pow O9m;split
     . ext a3
     . exact qv1 ?T ?I
universe Lat
namespace Lat
open Hb
def Fq(w:Nat)(R:Mat):?B w R (λr a=>R r ?dU)=R:=by
 funext r c
 unfold beside;by_cases h:c<w
 . rw[?qL]
 . rw[?j2];show R r (w+(c-w))=?bO;rw[show w+(c-w)=c by omega]
def So.table{n W w r:Nat}[?v0]{hd:?k}{T T' P:Mat}(h:?a3X W ?cS)(hz:?lI):?a3X W (?B w T' P):=by
 have same:∀k c,w<=c->?B w T' P k c=?B w T P k c:=λk c hc=>by unfold beside;rw[?q,?q]
 apply#[?YI,?cW,h.ge,h.lt,?p8,?a0,?ZE]
 . by_cases z:c<w
   . rw[?wE z];exact hz j c h1 h2 z
   . rw[same j c ?c];exact ?ML
 . rw[same j _ (h.ge j h1 h2)];exact h.head j h1 h2
 . rw[same k _ (h.ge j h1 h3)];exact ?Z0
def Ie{n w w':Nat}{T T' P B:Mat}(h:?J1):F6 n w' (?B w' T' P) B:=λi j hi hj=>by
 have:=?VI;unfold pD at this ⊢;rw[←this];exact Ah λc _=>by rw[beside_hi,beside_hi]
structure Ug(n w r E L m:Nat)(e:Int)(A T P PB Q QB:Mat)(kl kr:?w)(hl hr:?k):Prop where
 e0:0<e
 going:?kS
 kl:So n ?f1 w r kl hl ?cS
 kr:?a4H ?dN Q
 told:?PM
 dl:?a6B ?cS PB
 dr:F6 w n (?B n ?dN Q) QB
 left:?U2
def Ug.next{n w r E L m:Nat}{e:Int}{A T P PB Q QB R RB S SB:Mat}{kl kr tl ur:?w}{hl hr:?k}{G G':?aL}(hL:?X2)[?a2J]
 (s1:Ci n ?f1 w r n G ?cS PB kl hl tl R RB)
 (s2:Ci w ?hT n r w G' (?B n ?fX Q) QB kr hr ur S SB) :
 ?Q8/\(¬?m7->0<m/\Ug n w r E L (m-1) e A ?sU (?kQ) RB (?mX) SB kl kr hl hr):=by
 let#[a1,a2,a3,a4]:=Pf h.e0 h.going h.kl s1 h.told;have kr':?a4H ?fX Q:=?a3B h.kr.table a2.sq.row0;have t2:?a53 Q:=λx c hx hc=>Wb (T:=R) (P:=?zF) a4 x c hx hc;let#[b1,b2,b3,b4]:=Pf h.e0 a2 kr' s2 t2;have st:?Q8:=#[R,a1,b1]
 apply#[st,λns=>?_];let#[m0,lf]:=h.going.next h.e0 hL st h.left ns;apply#[m0,h.e0,b2,?_,?_,?_,?_,?_,lf]
 . have:So n ?f1 w r kl hl (?B w R ?kQ):=by rw[Fq];exact a3
   exact ?a3B ?sD b2.sq.row0
 . have:?a4H S ?mX:=by rw[Fq];exact b3
   exact ?a3B ?sD b2.sq.flip.row0
 . intro x c hx hc;show S c x=_;rw[b4 c x hc hx,Oc]
 . have d:=s1.st.good.dual h.dl;have:?I5:=?RK
   exact ?rT
 . have d:=s2.st.good.dual (Ie h.dr);have:?LW:=?RK
   exact ?rT
abbrev one:Mat:=λi j=>?rX
def Vk[?b5](T:Mat):?a6B (?B w T one) one:=λi j hi hj=>by
 unfold pD
 rw[show(λc=>?B w T one i ?tJ*?C4)=λc=>(if c=i then 1 else 0)*?C4 from ?aH λc=>by
  rw[beside_hi];show(if i=c then ?cP else 0)*_=_;by_cases e:i=c
  . rw[?bK,?o ?s2]
  . rw[?bN,?g ?iM]]
 rw[Dv (λc=>?C4) i n,?y7];show(if j=i then ?cP else 0)=_;by_cases e:i=j
 . rw[?bK,?o ?s2]
 . rw[?bN,?g ?iM]
def qP[?fI](A:Mat):∀x c,x<n->c<w->A x c=?a3Q (one x) (one c):=λx c hx hc=>by
 unfold P8
 rw[?a9 (j:=x) hx λk _ hne=>by
  have:one x k=0:=?wD;ext cM]
 rw[?a9 (j:=c) hc λk _ hne=>by
  have:one c k=0:=?wD;ext cM]
 have e1:one x x=1:=?s;have e2:one c c=1:=?s;rw[e1,e2];simp
def iW{n w D D' L:Nat}{A R RB S SB:Mat}{t u:?w}{G G':?aL}(hD:P7 n G (?B w A one) D)(hD':P7 w G' (?B n ?fX one) D')
 (s1:Ee n ?f1 w n G (?B w A one) one t R RB) (s2:Ee w ?hT n w G' (?B n ?fX one) one u S SB) :
 ∃(r:Nat) (e:Int),?bC/\?g3/\e<=D/\Ug n w r D L (r*?iF) e A ?sU (?kQ) RB (?mX) SB t u ?nQ (λj=>?w4) ∧
   (?U4)/\∀j,j<w->?w4<=D':=by
 let#[r,hr,st,hz,K,pr,hd]:=s1.first hD;let#[r',hr',st',hz',K',_,hd']:=s2.first hD';have e0:0<?RG:=Dd λj hj=>?J0;have rs2:E8 w n ?fX (tr ?sU):=?a61 s2.rows;have g:=Xo.first (T:=A) hr st hz rs2 pr;have rw':=g.sq.rw
 have er:r'=r:=by
  apply qi8 ?eQ ?eQ
  . have p:=st'.pos r z;have:S r (u r)=0:=g.sq.col0 (u r) r (st'.lt r z) ?h O9m;omega
  . have p:0<S r' r':=g.pos r' z;have:S r' r'=0:=hz' r' r' ?h O9m O9m;omega
 subst er;have d1:=s1.good.dual (Vk n w A);have d2:=s2.good.dual (Vk w n ?fX);have tl:=s1.told ?h (Qa (qP (n:=n) (w:=w) A));have t2:?a53 one:=λx c hx hc=>Wb (T:=R) (P:=?zF) (Q:=one) tl x c hx hc;have tl2:=s2.told ?h (Qa t2);apply#[r',_,hr,rw',pr,#[e0,g,?_,?_,λx c hx hc=>?_,?_,?_,qB.start g],hd,hd']
 . have:So n ?f1 w r' t ?nQ (?B w R ?kQ):=by rw[Fq];exact K
   exact ?a3B ?sD g.sq.row0
 . have:So w ?hT n r' u (λj=>?w4) (?B n S ?mX):=by rw[Fq];exact K'
   exact ?a3B ?sD g.sq.flip.row0
 . show S c x=_;rw[tl2 c x hc hx,Oc]
 . have:?I5:=by rw[Fq];exact d1
   exact ?rT
 . have:?LW:=by rw[Fq];exact d2
   exact ?rT
structure Hy(n w m:Nat)(E:Nat)(A P PB Q QB:Mat)[?K]:Prop where
 mn:m<=n
 mw:m<=w
 diag:∀x y,x<n->y<w->?a3Q (P x) (Q y)=?I6
 pos:∀x,x<m->0<f x
 zero:∀x,m<=x->x<n->x<w->f x=0
 prod:?cB<=E
 dl:F6 n 0 P PB
 dr:F6 w 0 Q QB
def CU[?fI]{T P B:Mat}(h:?J1):F6 n 0 P B:=λi j hi hj=>by
 rw[←?VI];unfold pD;exact Ah λc _=>by rw[beside_hi,qs5]
def Ug.diag{n w r E L m:Nat}{e:Int}{A T P PB Q QB:Mat}{kl kr:?w}{hl hr:?k}[?a2J](s:?m7):Hy n w r E A P PB Q QB (λx=>T x x):=by
 apply#[h.going.sq.rn,h.going.sq.rw,λx y hx hy=>?_,h.going.pos,λx h1 h2 h3=>h.going.sq.row0 x x h1 h2 h3,h.going.prod,CU h.dl,CU h.dr];rw[←h.told x y hx hy];by_cases z:x=y
 . rw[?dO,z]
 . ext cN;exact s x y hx hy z
def Hy.share[?a34][?D](h:?PZ){i j:Nat}[?ES][?a2R] :
 Hy n w m E A (?r ?m6 j i (-(b*f j / g))) (?r (?r PB j i ?G) i j (b*f j / g)) (?A Q i j a b (-(f j / g)) (?dL)) (?A QB i j (?dL) (f j / g) (-b) a) (?eY f i j g (?dL*f j)):=by
 have ne:?dP:=O9m
 have mn:=h.mn;have mw:=h.mw;have pi:=?a0 i O9m;have pj:=?sB;have pg:=S.pos;have pr:=S.pair;have gz:?dL*g=f i:=Int.ediv_mul_cancel S.dA
 have po:0<?dL*f j:=by
  have:0<g*(?dL*f j):=by rw[pr.pr];exact ?sP pi pj
  exact Int.pos_of_mul_pos_right ?I O9m
 apply#[mn,mw,DP (?ZF) ne O9m O9m O9m O9m h.diag S,?pF,λx h1 h2 h3=>?_,?_,?_,?_]
 . by_cases e1:x=i
   . rw[e1,Tx];exact pg
   . by_cases e2:x=j
     . rw[e2,?fM];exact po
     . rw[?MG];exact ?a0 x hx
 . rw[Kt f ?c ?c];exact ?aU x h1 h2 h3
 . rw[NW hij hj ?c ?c pr.pr];exact h.prod
 . have d1:=h.dl.add (p:=i) (q:=j) O9m O9m ne 1;have d2:=d1.add (p:=j) (q:=i) O9m O9m ?g4 (-(b*f j / g));rw[qo3]at d2;exact d2
 . have B:=S.blend (π:=(f i).natAbs+(f j).natAbs) pi (qa5 O9m (qe5 qr5)) (qa5 O9m (qe5 qr5));have d:=h.dr.blend (p:=i) (q:=j) O9m O9m ne B.one;rw[qo3]at d;exact d
def Hy.le[?a34][?D](h:?PZ){x:Nat}(hx:x<m):f x<=E:=qv4 (a9 ?a0 hx) ?B5
abbrev X1(n r:Nat)(kt:?w):?aL:=λc=>∃j,?aO/\j<n/\c=?fS
def So.bits{n W w r β η:Nat}[?v0]{hd:?k}{M B:Mat}(K:?B4)(hη:∀j,?aO->j<n->?iI<=?jH)(b1:?a6I β M)(b2:?NZ)(hβ:η+1<=β):BB n W (X1 n r kt) ?mZ β (M,B):=by
 apply#[b1,b2,λk c hk hc=>?_];let ?YQ:=hc
 have le:?UI<=?jH:=by
  have p:=?q7 j h1 h2;have q:=hη j h1 h2
  have q':?IZ:=by
   have:(?MH:Int)<=((?jH:Nat):Int):=by rw[Int.natAbs_of_nonneg ?c];exact_mod_cast q
   exact_mod_cast this
  rcases qk7 k j with z | z | z
  . let ?kY:=K.red k j h1 z h2;omega
  . subst z;rw[?wJ k h1 h2];exact q'
  . rw[?DA k _ ?c hk (K.inc j k h1 z hk)];exact ?aE
 show ?UI*2 ^ ?mZ<?d3;have e:?d3=?a7K η 1*2 ^ ?mZ:=?CD
 rw[e];apply Nat.mul_lt_mul_of_pos_right ?_ (qr4 _);exact cD le
abbrev Nn(π b η r n:Nat):Nat:=?eB+Sh (η+1+?eB) η r (n-r)
def xW{n W r β η π b:Nat}[?v0][?e6](bb:BB n W (X1 n r kt) ?mZ (β+?eB) s)(hr:?bC)(hβ:η+1<=β):dI n r r kt (η+1+?eB) s.1:=by
 have:=UH bb hr (kt:=kt) (λj h1 h2=>?YQ) O9m;rw[show β+?eB-?mZ=η+1+?eB by omega]at this;ext a3
def NL(π b:Nat){i r:Nat}(h:i<=r):?QS<=?eB:=by
 induction r with
 | zero=>rw[?a3L i 0];exact ?b6
 | succ r ih =>
   by_cases e:i=r+1
   . rw[e];exact ?b6
   . have:=?cZ;show _<=?eB+Gq π b r;omega
def PD(c η r:Nat){d e:Nat}(h:d<=e):?JO<=?OH:=by
 induction e with
 | zero=>rw[?a3L d 0];exact ?b6
 | succ e ih =>
   by_cases z:d=e+1
   . rw[z];exact ?b6
   . have:=?cZ;show _<=?OH+_;omega
universe Lat
namespace Hb
open PySem L2
def KU{g:TG}[?u3][?a0L]
 [?a0G]
 [?E3]:?a52 ?pE NN:=PN hn Pv h0 hl (λi x y zs τ H p e1 e2 q hp=>?a6S q) hd
noncomputable abbrev big:Nat:=67108864
def ZI:∃n:Nat,n=?AH:=?HJ
abbrev L9:Nat:=Classical.choose ZI
def aN:L9=?AH:=Classical.choose_spec ZI
def JT{i j:Int}{n:Nat}(hi:?T9)(hj:?OA)(h:9000+n<=134217728:=by decide):?rC:=Lu ?zR hj h
def eE[?a2P]:?rC:=Lu ?zR ?PD ?T
def V4.of9{i j:Int}(h0:j≠0)(h:?S9):V4 i j:=V4.of h0 (aN▸h)
def Bm8[?a2P]:?HK<2 ^ 18000:=by
 rw[qb2,show 18000=9000+9000 from rfl,qe1];exact ql2 ?zR ?PD
def YS{x π:Nat}(h:x<=?S)(hπ:π<=8999):x<L9:=by
 rw[aN];exact qc1 h (?v6)
abbrev BO[?d9][?bY]:Prop:=?I8 n W big s.1/\?I8 n n big s.2
abbrev TA(H:Hp)(r:Addr)(as:?eT)[?d9](f:Lat.Mat):Prop:=as.length=n/\H r=?a3M (?eG)/\∀i c,?FV->H c=?a3M (VI W ?cD)
section
variable[?aS]{H H':Hp}{r:Addr}[?hP]{n W:Nat}{f g:Lat.Mat}
def TA.keep[?cL](h1:∀o,H r=?M->H' r=?M)(h2:?W8):?w1:=#[x.1,h1 _ ?iB,λi c e=>h2 c (qb1 e) _ (?iN i c e)]
def TA.same[?cL](s:?d2):?w1:=?xG (λ_ e=>?B3) λ_ _ _ e=>?B3
def TA.put{y:Addr}{o:HO}[?cL](h1:r≠y)(h2:∀a∈as,a≠y):?a83 (?a4N y o) f:=?xG (λ_ e=>by rw[Al h1];exact e) λa ha _ e=>by rw[Al (h2 a ha)];exact e
def TA.row[?cL]{i:Nat}[?dB]:∃c,?FV/\?a7Z (?eG) (?l c)/\c∈as/\?a4G c (VI W ?cD):=by
 let ?pZ:=x;have e:=qa0 (l:=as) (i:=i) O9m;apply#[as[i],e,by rw[qb0,e];rfl,qe4 _,.of (h3 i _ e)]
def TA.rep[?cL]:?a5A (?l r) (dT n W f):=by
 apply iF (us:=?eG) (.of ?iB) (by rw[qa4,x.1]) ?q2;let#[c,_,e,_,h]:=x.row (K:=K) hi;exact#[c,e,h]
def TA.there[?cL]:H r≠none/\∀a∈as,?rW:=by
 apply#[by rw[?iB];exact(λz=>nomatch z),?ZK];let ?CP:=qh5 ha;rw[?YH];exact λz=>by cases z
def TA.of{D:Addr}{H1:Hp}{w h:Nat}[?k5](hl:?qU):TA H1 D as h w f:=#[hl,R.at,λi c e=>(R.row i c e).2.2]
def TA.congr[?cL](e:∀i c,i<n->c<W->?pA=g i c):?a83 H g:=by
 apply#[x.1,?iB,λi c ec=>?_];have hi:i<n:=by rw[←x.1];exact(?gT ec).1
 rw[?iN i c ec,Rk λk hk=>e i k hi hk]
def TA.x{p C dx:Addr}{fs:?a4J Str V}[?cL](hp:?a5T fs)(sx:?HY):?w1:=by
 apply ?xG (λo e=>sx _ _ (Fo ?iB hp ?dE) e) λa ha o e=>sx _ _ ?_ e;let ?CP:=qh5 ha;exact Fo (?YH) hp ?dE
def TA.made{H2:Hp}{L D:Addr}{i:Nat}[?cL](s2:?h6 H H2)[?dB](hL:H2 L=?a3M (?GC i ?g0))(hD:H2 D=?a3M (VI W (g i)))(e:∀r,?p2->g r=f r):TA H2 L (as.set i D) n W g:=by
 apply#[by rw[qi4,x.1],by rw[hL,List.map_set],λj c ec=>?_];rw[qp8]at ec;by_cases hj:i=j
 . subst hj;ext a1R;exact hD
 . rw[?g hj]at ec;rw[e j (?a3V hj)];exact s2 _ _ (?iN j c ec)
def TA.two{i j:Nat}{D1 D2:Addr}[?cL][?dB](hj:j<n)(hij:?dP)(h':H' r=?a3M ((?GC i (?l D1)).set j (?l D2)))(keep:?W8)(h1:H' D1=?a3M (VI W (g i)))(h2:H' D2=?a3M (VI W (g j)))(e:∀k,k≠i->k≠j->g k=f k):TA H' r (?M7) n W g:=by
 apply#[by rw[qi4,qi4,x.1],by rw[h',List.map_set,List.map_set],λk c ec=>?_];rw[qp8,qi4]at ec;by_cases hkj:j=k
 . subst hkj;rw[?s,?o (by rw[x.1];exact hj)]at ec;cases ec;exact h2
 rw[?g hkj,qp8]at ec;by_cases hki:i=k
 . subst hki;ext a1R;exact h1
 rw[?g hki]at ec;rw[e k (?a3V hki) (?a3V hkj)];exact ?eK c (qb1 ec) _ (?iN k c ec)
def LZ{i j:Nat}{D1 D2 a:Addr}(h:a∈?M7):?AY\/a=D1\/a=D2:=by
 rcases qn8 h with h | h
 . rcases qn8 h with h | h
   . exact ?J h
   . exact ?Z (?J h)
 . exact ?Z (?Z h)
def Kx{l i:Nat}(h:i<l):xA l ?T1=?e i:=by
 unfold xA;rw[?N,?N,qf9]
universe e9
abbrev mNames:?lS:=["turn","blend","put_in","meet","shrink","shrink_row"]
structure LX(H:Hp)(C p r b:Addr)(sv:?i9)[?d9][?bY](N:?dR):Prop where
 ob:Ko λdx fs=>?a5T fs/\C9 (?m0 ("rows":Str)=?e (?l r)) (?m0 ("backs":Str)=?BE) (?m0 ("starts":Str)=sv) ((∀m∈mNames,?m0 m=none)) (fs.length<=10)
 rw:∃as,TA H r as n W s.1/\∀a∈as,?XV
 bk:∃bs,TA H b bs n n s.2/\∀a∈bs,?XV
 ne:r≠b
 nr:¬N r
 nb:¬N b
 nn:∀a,N a->?rW
def LX.keep{H H':Hp}[?a0Y](e:?d2):?a5R H' s:=by
 let#[dx,fs,h1,h2]:=x.ob;let#[as,a1,a2]:=x.rw;let#[bs,b1,b2]:=x.bk;exact#[#[dx,fs,e _ _ h1,h2],#[as,a1.same e,a2],#[bs,b1.same e,b2],x.ne,x.nr,x.nb,λa ha z=>x.nn a ha (e.free z)]
def LX.refs{H:Hp}[?a0Y]:p≠r/\p≠b:=by
 let#[dx,fs,h1,_]:=x.ob;let#[as,a1,_]:=x.rw;let#[bs,b1,_]:=x.bk;exact#[Fo h1 a1.2.1 ?dE,Fo h1 b1.2.1 ?dE]
abbrev tnS(t:Tn)[?bY]:?bP:=(VG t s.1,VG ?D4 s.2)
abbrev Af2[?d9](f:Lat.Mat):?YF
 | .ad i j k=>i<n/\j<n/\?dP/\∀c,c<W->?h9 k (f j c)
 | .mi i=>i<n
 | .sw _ _=>False
abbrev Xp(r b:Addr)(H H':Hp):Prop:=∀x o,x≠r->x≠b->H x=?M->H' x=?M
def Xp.of{r b:Addr}{H H':Hp}(s:?d2):?sH:=λ_ _ _ _ e=>?B3
def Xp.trans{r b:Addr}{H H1 H2:Hp}(x:Xp r b H H1)(y:Xp r b H1 H2):Xp r b H H2:=λa o n1 n2 e=>y a o n1 n2 (x a o n1 n2 e)
def Xp.l[?a2Q]:Xp r b H (upd H' r o):=?a5I n1
def Xp.r[?a2Q]:Xp r b H (upd H' b o):=?a5I n2
section
variable[?c0][?uU]
abbrev Zt:Sp:=λvs H Q _=>zR λ(r:Addr) (u:V) (as:?eT) ?JH (f:Lat.Mat) ?CY=>Nm (vs=[?l r,u]) (?H0) (?a5A u (VB t)) (Af2 n W f t) ?kN (W<=1000) (∀(D:Addr) (as':?eT) (H':Hp),?lG->?d2->TA H' D as' n W (VG t f)->(∀a∈as',(?AY\/?D1)/\a≠D)->?CR)
abbrev Np(_K:W.Frag)[?uU]:Sp:=λvs H Q _=>Ye λ(p dx C:Addr) (r b:V)=>By (vs=[?fR,r,b]) ((C=CL\/C=CS)) (?a5T []) (∀H',(∀fs,fs=putF "backs" b (putF "rows" r [])->H'=upd (?a4N p (.ins C dx (putF "rows" r []))) p (.ins C dx fs)->?O8))
abbrev Lc[?c0][?uU]:Sp:=λvs H Q _=>LG λ(p:Addr) (u:V) (C r b:Addr) ?F9 ?JH (s:?bP) (N:?dR) ?CY=>V5 (vs=[?fR,u]) ((C=CL\/C=CS)) (?yU) (?a5A u (VB t)) (Af2 n W s.1 t) (Af2 n n s.2 ?D4) ?kN (W<=1000) (∀(r' b':Addr) (H':Hp),?HY->H r'=none->H b'=none->LX H' C p r' b' sv n W (tnS t s) N->?O8)
abbrev Xw:Sp:=λvs H Q _=>∃A B:Int,vs=[?m A,?m B]/\0<A/\B≠0/\?Z6/\?JL/\∀(L:Addr) (g a b:Int) (H':Hp),?d2->?a7F b->?wV A B g a b->?EU
abbrev Nq[?c0][?uU]:Sp:=λvs H Q _=>Am8 λ(p C r b:Addr) ?F9 (n W i j:Nat) (A B:Int) (s:?bP) (N:?dR)=>uV (vs=[?fR,?lE,?pK,?m A,?m B]) ((C=CL\/C=CS)) (?yU) (i<n) (j<n) (?dP) ?kN (W<=1000) (0<A) (B≠0) (?Z6) (?JL) (?OK) (∀(L:Addr) (g a c:Int) (H':Hp),?sH->Kp H H'->?a7F c->?wV A B g a c->?a5R H' (?X5 i j a c (-(B / g)) (?h2) s)->?EU)
universe e9
abbrev Hds(W:Nat)[?u](f m:Nat)(R:Lat.Mat):Prop:=∀j,?fY->j<m->t j<W/\?kO/\?eD<L9
structure SX(CS:Addr)(H0 H:Hp)(p q:Addr)(M:?dR)[?d9][?u](cnt:Nat)[?bY]:Prop where
 ex:∃r b,?KT/\?Q2/\?H3
 st:H q=?a3M (VI cnt λi=>((t i:Nat):Int))
 same:?S6
 fp:H0 p=none
 fq:H0 q=none
 mq:M q
 sm:n<=100/\W<=200/\cnt<=n
section
variable{CS:Addr}{H0 H H':Hp}{p q:Addr}{M:?dR}{n W cnt:Nat}[?j]{s s':?bP}
def SX.redo{H1:Hp}{r' b':Addr}[?E4](e:?v3)(sx:SameX p H1 H')(h1:H1 r'=none)(h2:H1 b'=none)(y:?a6H r' b'):?PJ:=by
 have s1:=x.same.trans e;let#[r,b,z,_]:=x.ex;let#[dx,fs,hp,_]:=z.ob;exact#[#[r',b',y,s1.free h1,s1.free h2],sx _ _ (Fo x.st hp ?dE) (e _ _ x.st),sx.same s1 x.fp,x.fp,x.fq,x.mq,x.sm]
def SX.redo2{r b:Addr}[?E4](lx:?KT)(f1:?Q2)(f2:?H3)(fr:?sH)(_kp:Kp H H')(y:?a6H r b):?PJ :=
 #[#[r,b,y,f1,f2],fr _ _ (λz=>lx.nr ?LH) (λz=>lx.nb ?LH) x.st,λa o e=>fr _ _ (Aq e f1) (Aq e f2) (x.same _ _ e),x.fp,x.fq,x.mq,x.sm]
def SX.re[?E4](h:s=s'):?a4Q H s':=h▸x
universe e9
def insAt_get{α:Type}[?EC](h:?IA)(j:Nat):(?y4)[j]?=if j<k then xs[j]? else if j=k then ?qE else xs[j-1]?:=by
 unfold insAt;by_cases h1:j<k
 . rw[?jC,qc9 (by rw[qd5];omega),qm5,?jC]
 . rw[?gN,qd1 (by rw[qd5];omega),qd5,?WE h];by_cases h2:j=k
   . rw[?jO,h2,qh8];rfl
   . rw[?eI];obtain⟨e,rfl⟩:∃e,j=k+1+e:=#[j-?bT,O9m]
     rw[show k+1+e-k=e+1 by omega,List.getElem?_cons_succ,qw7]
     congr 1
     omega
def CC{α:Type}{xs:?oX}{i s:Nat}{y:α}(hi:xs[i]?=?qE)(hs:s<=i)(j:Nat):(?g9 s y (xs.eraseIdx i))[j]?=xs[Lat.mvI i s j]?:=by
 have hl:i<xs.length:=(?gT hi).1;rw[?UP _ _ _ (by rw[qj4 hl];omega)];unfold Lat.mvI;by_cases h1:j<s
 . rw[?jC,?jC,List.getElem?_eraseIdx,?N]
 . rw[?gN,?gN];by_cases h2:j=s
   . rw[?jO,?jO,hi]
   . rw[?eI,?eI,List.getElem?_eraseIdx];by_cases h3:?c6
     . rw[?N,?o h3]
     . rw[?q,?g h3]
       congr 1
       omega
def cJ{α β:Type}(g:α->β)[?EC]:(?y4).map g=?g9 k (g y) (xs.map g):=by
 unfold insAt;rw[qb4,qc8,qp0,qr3]
def Wz{α β:Type}(g:α->β):∀(xs:?oX) (i:Nat),(xs.eraseIdx i).map g=(xs.map g).eraseIdx i
 | [],_=>rfl
 | _::_,0=>rfl
 | x::xs,i+1=>?wB (g x::·) (Wz g xs i)
def TA.move{H H1:Hp}{r:Addr}[?hP]{n W i s:Nat}{f:Lat.Mat}{ci:Addr}[?cL][?hM](OV:?a7Z as ci)(h1:H1 r=?a3M (?g9 s (?l ci) ((?eG).eraseIdx i)))(h2:∀a∈as,H1 a=H a) :
 TA H1 r (?XS) n W (Lat.moveR f i s)/\?TQ:=by
 have mem:?TQ:=λa ha=>by
  let#[j,hj]:=qf1 ha;rw[?GO]at hj;exact qb1 hj
 apply#[#[?_,?_,λj c e=>?_],mem]
 . unfold insAt;rw[qc6,qd6,qd5,qj3,qj4 (by rw[x.1];exact hi),x.1];omega
 . rw[h1,cJ,Wz]
 . rw[?GO]at e;rw[h2 c (qb1 e),Lat.move_row];exact ?iN _ _ e
def jB{i s st:Nat}[?j](hs:s<=i):?g9 s (?a4 ((st:Nat):Int)) (VI i λk=>((t k:Nat):Int))=VI ?i λk=>((?oH t s st k:Nat):Int):=by
 refine qp9;intro j;rw[?UP _ _ _ (by rw[Bu];exact hs)];by_cases hj:j<i+1
 . rw[Co hj];unfold Lat.insT;by_cases h1:j<s
   . rw[?jC,?jC,Co ?c]
   . rw[?gN,?gN];by_cases h2:j=s
     . rw[?jO,?jO]
     . rw[?eI,?eI,Co ?c]
 . rw[?q,?q,qh4 (by rw[Bu];omega),qh4 (by rw[Bu];omega)]
def Zw[?u](p f:Nat)[?bY]:∀d l,l≠p->(?mE t p f s d).1 l=s.1 l
 | 0,_,_=>rfl
 | d+1,l,h=>by
   rw[Lat.shrS];show Lat.addR _ _ _ _ l=_;rw[Lat.addR_row_ne h];exact Zw t p f s d l h
abbrev dH[?d9][?u](i f m:Nat)[?bY]:Prop:=∀d,d<=m-f->BO n W (?mE t i f s d)
abbrev LH[?d9][?u](i:Nat)[?bY]:Prop:=∀d,d<=i->Hds W t ?dS ?i (?FQ).1/\dH n W t ?aD ?dS ?i (?FQ)
abbrev A01[?u](spot i:Nat)(k:Int)[?bY]:?bP:=?mE t i ?t (Lat.addS i ?d (-k) s) ?aY
abbrev j3[?E9][?bY]:?bP:=?X5 ?d i a b (-(B / g)) (?h2) s
abbrev sM[?u][?E9][?bY]:?bP:=?mE t ?d ?t (j3 ?d i A B g a b s) ?aY
abbrev A00[?u][?E9][?bY]:?bP:=?mE t i ?t (sM t ?d i A B g a b s) ?aY
structure UI[?d9][?u](spot i:Nat)[?bY](Nx:?y6):Prop where
 bo:?OK
 hd:Hds W t ?d i s.1
 oth:?lB≠0/\(?lB).natAbs<L9
 add:∀k,?lB=k*?JZ->dH n W t i ?t i (Lat.addS i ?d (-k) s)/\Nx (A01 t ?d i k s)
 ble:∀g a b,?wV ?oT ?qF g a b->dH n W t ?d ?t i (j3 ?d i ?oT ?qF g a b s)/\dH n W t i ?t i (sM t ?d i ?oT ?qF g a b s)/\Nx (A00 t ?d i ?oT ?qF g a b s)
structure Al7(n W i:Nat)[?u](s0:?bP)(I:Nat->?y6):Prop where
 start:I 0 s0
 ok:∀spot s,?j0->?D9->∃c,c<W/\s.1 i c≠0
 skip:∀spot s,?rE->?D9->(∀c,?j3->s.1 i c=0)->I ?t s
 meet:∀spot s,?rE->?D9->(∀c,c<?dK->s.1 i c=0)->?lB≠0->UI n W t ?d i s (I ?t)
abbrev Ja(W:Nat)(u:?k)(st:Nat):Prop:=(∀c,c<st->u c=0)/\u st≠0/\st<W
def Ja.one{W W':Nat}[?oD]{a b:Nat}(h:Ja W u a)(k:Ja W' u b):a=b:=by
 rcases qk7 a b with e | e | e
 . exact ?gZ (k.1 a e) h.2.1
 . exact e
 . exact ?gZ (h.1 b e) k.2.1
def Ja.ex{W:Nat}[?oD](h:∃c,c<W/\u c≠0):∃st,Ja W u st:=by
 let#[c,hc,h0]:=h
 induction c using Nat.strongRecOn with
 | _ c ih =>
   by_cases z:∃d,d<c/\u d≠0
   . let#[d,hd,hd0]:=z;exact ih d hd O9m hd0
   . apply#[c,?pY,h0,hc];exact qg7 λk=>z #[d,hd,k]
structure iP[?d9](J:Nat->(?w)->?y6):Prop where
 step:∀i t s,i<n->J i t s->∃I,Al7 n W i t s I/\∀spot st s',?j0->I ?d s'->Ja W (s'.1 i) st->(?LP) →
  LH n W (?oH t ?d st) i (Lat.insS i ?d st s')/\J ?i (?oH t ?d st) (?T4 (?oH t ?d st) i (Lat.insS i ?d st s') ?i)
end
mutual
#check(5,[?a,?b,sumN,some,.int,.ref,(?zL),.inl,∀(K:W.Frag),a,if_neg,decide,(pv 0),.inr,∀{xs:LLInt}{k:Int},a,if_pos,spot,(?m3),Nat->Nat,.lst,Nat->Int,(?b4),?a5 V,.(by decide +kernel),∀{xs:LLInt},a,?a5 Int,.(by ext w),none,?a5 Str,G σ H,.tup,∀{G:?tA},a,Same,(n+1),(i+1),∀(φ:?kV),a,min n w,(pv 1),?o rfl,xs.getD,?f a,base,(w+n),∀{K:W.Frag},a,∀{ps:?bL},a,(k:Int),G σ,∀{G:?a45 St},a,(pv 2),∀(xs:LLInt)(k:Int),a,V.int,.(by ext a1),?F H H',this,.(by simpa using h1),Au ms k,(xs:LLInt),beside,List,(k+1),λDr A outer s H vs Q E hr h=>?_,F.okZ,FnScope,absurd,∀(T:Fv K mg Ag Af Aj Av),a,∀{f:Addr}{fd:FuncData},a,ms.map,?j ?g,(?cP),(?W4),Bits,(Bk _),∀{vs:?v},a,?a1Z ms,?a45 Hp,Lat.Mat × Lat.Mat,∀(hs:?rT),a,?J*?f7,(LT K H (?N) xs),mulV,qa3.mp,sumN_one,∀{ms:Ms}(h:?bD),a,∀{lf:?fO},a,C3 xs k,?f p,qa9 _,(?jU),∀(ps:?bL),a,∀(_K:W.Frag),a,?o e,Int × Int,Same.new,qa2 _,cK ms,?a5U D,Q ?dQ H',qd0.mp,a.fdiv b,(?bX),bookF,(k+i),nd ms,(a b:Addr),.(by rw[Bu];omega),(j+1),(zs k),?e i,wpAny,sumN_all0,?a5 Bc,?o z,?j z,?j h,(pv 3),2 ^ π,2 ^ b,(?j0),∀(Da:?u8),a,∀(CL CS CW:Addr),a,∀(f:?t),a,∀{f:?t},a,.(by decide),λp hp=>?_,.none,?f b,face,(by ext cC),(?gS),Mat × Mat,(j:Int),_::_,∀(ls:?k5),a,∀{A0:Type}{S:A0->St},a,.(by intro z;cases z),∀(lf:?fO),a,∀(xs:LLInt),a,.(by kernel_rfl),.(by simp;omega),s.heap.objs.size,Lat.Bits,(Bg (K:=K)),?e k,?j e,(i:Int),λD hD=>?_,(?u8),?k7 f k0 i,Lat.turnL,Nat->?t,?a6E k,IntMulOk,.(by apply ite2 (λh1=>?_) (λh1=>?_)),∀{A0 A1 A2:Type}{S:A0->A1->A2->St},a,.(by simpa using this),.(by infer_instance),?d ?XX,(ms:Ms),(?cY+1),(n:Int),List.range,(λ_ _ _ _=>Cc),G s H,?o h,IsEnum,(O9m),?j q,dets,z.symm,.ins,xs.length,p.1=k,lookI,"number",Q (?lJ) H',Nat->?v->?tA,(H0:Hp),∀(t:?LW)(Da:?u8){k:Nat}(hk:k<4),a,∀{A0 A1:Type}{S:A0->A1->St},a,∀(xs:LLInt)(ms:Ms),a,.(by exact ?aX),H' D,(0:Int),?dL+?cJ,"place",.(by grind),s.heap,.non,?k7 ?yB ?CW i,(?f e),small,?d o,wk.e0,(?KC),q.toNat,BB.bo,Hl n lf,(a:Addr),?r4 i 0,?e n,qa0 ?g,(k+j),p.2.2.2,qa0 hj,p.2.2.1,(?zP),?tJ m 0,.(by rw[qa1,?e3]),∀(fs:?y)(n:Int),a,.(by simpa using e),.(by exact ?b4),.(by rw[this,B5]),∀(n w:Nat),a,∀{D:Addr},a,p0 x0 x1,C0 xs ?S ?bH ?CW (Ls k) ?zB ?yB (lp k) (rp k) i,qg5.mp,Jd ms k,?f t,?a1W c,(t j),G a c,Reps,(d+1),(?mJ),(v:V),(?uE),"enumerate","row",?d p,P i j,p::ps,(2*n+π+2),(vs=?PG),r<=j,?f c,Option.none,(w+a),putI,(by ext bF),(π+2),p.2.1,?d q,Cb ?c3,0<=p.1,ps.map,(?lN),B a c,(r+1),(?X8),?o q,∀{ls:?k5},a,∀(i j:Nat),a,b.2.2.2,(?a4 w T P),A0->?aL,Au c ?mF,?a5 Ms,(by ext c9),λj hj=>?_,"chain",(?oP),c<w+n,λz=>?_,vs[i]?=?gI,.of Ab,((?hM).getD ?gC []),(?aV).length,(hd j).natAbs,p::ms,(xs.length:Int),?kX j 0,turnL,h1.1,p.1=1,(η+1),(L8 xs k u),.(by ext gZ),?m h,x.ne,(u1 On),p.toNat,?a7H ?DO c,(?o1),ns[i],k<=j,2 ^ n,?d v,π+1,?a5P p0,(w.length:Int),(B7 xs ms),?b3 hD,(p j),qe4 _,this.1,(?kN),.(by simp),(?a55 1000),"table",Lat.one,(?WD),(.dK (?b5)),∀(f:?t)(l r:?aM),a,.(by simpa using h2),∀(s:?Z),a,.(by split<;>omega),∀{hs:?bL},a,∀{u:?t},a,Ry (?hT) e,2*(?pV),qa0 O9m,A0->A1->A2->?aL,λ_=>0,(kt j),p::c,#[_,rfl],(k-1),?a7S (λa=>?HI*?z3),(?T8),?b3 hp,beside_lo,restB,B7 xs D,?dL+?c5,AO n i,fs.getD i 0,Cn ?d9 ls,?a3L p0,(?xA),G i a,φ p.1,λi hi=>?_,?a2E p2,?a3K ?gC,(p0 x0 H),p0  x0 H,(r x),(H a=?s0),η+1+?jY,Ii ?aF v,(?rT),qe9.mp,i<k0,let s:=(?xH);?d1,(?BB),?o hi,β2+(?aO-m)*?j2,?a27 zs,?a5P p2,["thing"],fs.lookup,(fs.getD j 0),p.dπ,(?m ?hB),?iU ?l6 [],(?tR).getD,qe0 ..,?a2E p1,st.lt,let s:=(S x0);?d1,e.symm,s l-w,x.nu,?o ?g,λq=>?_,?a2+n,(p r),?a2E p0,p1 x0 x1,B4 H vs ps,lf.getD,?i1 hi,?dB ms k,(?gV,Lat.one),n*p.2,insS i ?p st s',?S+1,(N4 (K:=K)),(2*w+π+2),Cy.nd,?j ne,R l c,"shape",∀q,Au (?jZ) q=0,(?jT),λq hq=>?_,p0 x0,Nat->?tA,Rep.same,(?mU),(n w:Nat),Heap.SameBut,∀{A0 A1 A2 A3:Type}{S:A0->A1->A2->A3->St},a,∀{sp ns:?y}(hl:ns.length=sp.length),a,∀{f:?t}{l r:?aM},a,.(by unfold nd at h;rw[qc8,qg4]at h),∀(h4:?yH),a,∀{a:Addr}{xs:?v},a,.(by rw[e2]at k;exact k),∀{q:?b2},a,∀(fs:?y),a,∀{v:?t},a,∀{v:V}{p:Bc},a,?a6E ?a6,?a1Z (?iU ?dX []),σ=?y1,qb3 ..,?r4 i (0,0),(Dh (j6 ms n ns ?k9)),(w-k),Ep π b r,B7 xs c,qa0 hi,?a5 α,(lf i O9m),(?vF),Option,?a5 (?bL),Au ms j,Lat.numAt,(lf j hj),ns.length,HT.sIx,(?a7Q ?tH),Au c q,?k4 V,Rd H a ?gX,?a3K ?l6,(?aV).zip,(?a7O ?l),"backs",?a3L p1,let s:=?xH;G s,(l r:?aM),λy x=>M x (s y),L8 xs k v,(?J),(us:?v),[?e a,?e x,?e y],p1  x0 H,?a5P p1,(?kM),IteT K a,Int->Int,UY ms,(?aV).getD,J5 fs e i,(t k),(?Q4),A0->?a6Y A1 A2,(σ=?B7),β+(?aO-m)*?eZ,?zZ n w M,(?hL),p.1.toNat,(H b=?s0),Lat.sumN_all0,Value,Addr->Prop,Nat->Ms,(?X4).length,ih O9m,2 ^ π2,(?aX),spot<=i,qe8 ..,sp.length,?f D,b.1=0,T.n_range,?a5 ?l9,Hr ps,this.2.1,(?zE),(gT m G B),x c*T c c,st.inc,ms.length,?d ps,sp.map,π<=8990,(?IV),(?qE),?a6Y A0 A1,?a27 ys,(p1 x0 H),?a1W acc,.(by rfl),nd ns,?wB=?eW,(λc=>?fT),i<ks k,O c=none,?dT O9m,.type ?C5,(?a6Q p1),.(by rw[Ay]),G j a,(qh0 _ _),(?kX a 0),?f p1,s.heap.objs.size+1,s1.trans,σ=S x0,"rows",(T i c).natAbs,w.take,(Ne.symm ne),?a25 S,(?vW),s1.seq,let s:=?y1;G s,wk.going,if ?u7 then x k*T k c else 0,?f5 ms k v,(?rG),Jb H v p,(σ=?EN),?a3W (λk=>?RG),(Hv n ms),nX (?yO) n,?a6E ?hC,its.toArray,v::vs,(?SJ),(?ML),qe9.mpr,∀{xs:LLInt}{zs ks:?r}{Ls Gs:?IN}{fs:?cO}{lp rp:?OE}{ls:?k5},a,∀{prog:Program}{w:World}{A:Around}{E:?tW},a,∀{A0 A1 A2 A3 A4 A5:Type}{S:A0->A1->A2->A3->A4->A5->St},a,∀{ns:?y}{c:Ms}(h:?H0),a,∀{A0 A1 A2 A3 A4:Type}{S:?a4I St},a,∀{Ae:Bm}{σ:St}{H:Hp}{s:Shared},a,.(by apply#[_,rfl,rfl,_,rfl,?_]),∀(hD:H D=?cV),a,.(by revert τ;apply Mm ?_),∀{P:Program}{w:World},a,∀{ms:Ms}(h:?q0),a,∀{q:Int}(hq:0<=q),a,∀(v:?t),a,∀{CL CW:Addr},a,∀{l:?y},a,∀{t:?r},a,∀(vs:?v),a,∀{O H H':Hp},a,p.getD j 0,?b8 hm,(t:?r),Ek zs _ ?g,[?e (a-?b9*b),?e (x-?b9*u),?e (y-?b9*v)],(i-r),qg8 ?bA O9m,(?a3G D o),["piece"],Ek Gs _ ?g,s.heap.IsTuple,#[i,hi],.(by ext cD),?a6K p0,λ_ z=>?SC,(?VJ),?e v,(j:Nat),(p q:Addr),y k i,Q (?EL) H,(insT t ?p st),.bool,?a7H ?tY c,qc9 ?g,(k,v),M i i,(?e1),(?qC).natAbs,?a6E ?bS,(?hT).length,V2 xs k p,st.pos,?cZ n,Nh n p,?d b,Ih ms fs n i,ms[i],"_law_word",#[a,b],["parts"],2 ^ ?G,?a3L p2,Reps.same,Px O H v p,(?tX).1,h.zero,PB i b,(qb6 _ hq),φ ?mF,.str x,"other",?a21 p0,let s:=S x0;G s,(n-r),?a6C η n,F4 f n,Q y c',"list",p.1∈?aV,Q ?bC c,(n W:Nat),#[j,hj,ej],∀j,j<i->t j<w+n,bl.fin.dg.pos,?a4 w T P k c,(?yE),(?BP).2.2,(?hY),(?X4),"width",(?kS),(M:Lat.Mat),q.2=0,(vs=[?N]),wk.kl,"__init__",Nj n l,?cJ%2,[(p,1)],#[?m3,?m3,?m3,?m3],?a1U p1,s3.seqT,nz ms,.builtin,let s:=(?CP);?d1,Gq π b i,chainB,Au [] k,(x k).natAbs,?b8 h,?rU+1,λx=>M x (s 0),B4.put,false,R j ?eN,prodN,Dh ms,(?E0),#[?gN,Ab,rfl,?A,rfl],#[r1,r2],(kB n+6),sumN_cut,(z▸hN),(?C7),λk=>x k*T k c,PB k a,?a5 (?b2),?k4 ?A2,?a51 p0,insT t ?p ?pJ j,Nat->(?t)->?Q1,?aM->Prop,TI.mk,(model prog w),(s:?aM),?e p,(λ_=>False),?a6S p0,(λa=>a=nm\/a=r2\/a=b2),.bl b,p2 x0 x1,Al nDa.symm,ns.getD,?a1U p0,?a2E p4,B7 xs ?pW,c.foldl,this.2.2,V r l,?a4U a xs,p.1=0,A0->A1->A2->A3->?aL,λk hk=>?_,2 ^ 136,.(by ext eC),(p2 x0 H),p2  x0 H,?a2E p3,(?m (?h z)),qd0.mpr,?a5P p3,q.symm,(?DX).2,2*bookF,p<?g1,ns[i].1,(vs=[v]),Ce xs,J5 fs k j,?b8 hp,(vs=[?N,?cH,?c0]),?j h1,p.getD i 0,(?tQ ?X),?d ?gX,(kB n),Ek Ls _ ?g,(?d (w:Int)),st.red,if i=j then 1 else 0,?a1R m,?qU ?_,.(by cases h),2 ^ bookF,(?a5S hl),?c (λy=>?z2*?tO) w,?gH*e.natAbs,zt1 ?dP t,st.zero,List.replicate,L8 xs k (?cN z l.1 G i),ls[k]?=?lU,C0 xs k z k0 L G f l r i,2 ^ 9000,(0:Nat),TI.get,(?a6Q p2),X1 n r kt,qb9 ?_,(?gK),hp.objs.size,X.prog,(Oo xs k),?a1U p3,(?aO),(?m (?m z)),Au b.2.1 q,#[#[old,h1],h2],(H1 D=?m0),let s:=(?y1);?d1,?j h3,H c=?f9->H1 c=?f9,(ns.take ?H),((ds.length:Nat):Int),De (?M r.1.toNat []).length,dg.pos,Eq.trans,p.π9,(m+1),bs[i]?,St->?aL,(?a7T Fn),λl=>[l],(l.map F).sum,?a1Z c,?a1U p2,(qb1 e),(Aa ?l Ad),?oB b,sp.getD,2 ^ i,A0->A1->?aL,(?g0),Aw w fam,QB y c,P i a,ns.map,C3 xs ?hC,?g3 z PB L j c,?a1U p4,?h k,?z1 1,?l9->?EC,t.lv k hk,(?eI).2.2.1,(M:?lA),v ?kZ,?j hf,p1 x0,if k=j then 1 else 0,(?F H G),(p L R nm:Addr),J5 fs k i,c+1<=k/\k<r,xs.length<=40,?k (0<=r.1)&&?k (r.1<?g1),?tJ i 0,β-?g6,Dh (ms.take i),qd1 ?u,Mb xs ms i,Lx ps i,(?jV).1,I.idict,K.zero,(λk=>?q6),w.length-1,.type ?eU,.(by simpa using h),(vs=[?aW]),(pv 4),2 ^ (?I6+z),?mI s2,?a7S (λc=>?eO*?tS),∀{ns:?y}(x:?M1),a,∀(s:Oh b H H1)(hb:H b=?d (.dK m)),a,.(by let#[z,k0,L,G,f,l,r,bl,rfl]:=h),.(by rcases h with(h|⟨o,h⟩) | h),∀{p:Int}(hp:p∈?O0),a,.(by let ?DD:=?rV),∀{kt:?r}{hd:?t},a,∀(z k0:Nat)(L G:Lat.Mat),a,.(by rw[?aE]),∀{m:Ms}(h:?RM),a,∀(hp:?sH),a,∀{f:?cO},a,∀(D:Addr) (H':Hp),a,∀(h:El O H vs ps),a,∀(h:Go D H vs ls),a,∀{ms:Ms}{k v:Int},a,∀(h:Rm xs k ps),a,∀{ms:Ms}{k:Int},a,∀{p:?b2},a,∀{fs:?y},a,ChL.ch Da _ _,?a3W (λc=>?c (λl=>(RB l a-?mY)*R l (w+c)) n*RB i c),(qf6 _).symm,?F H H1,(c:Ms),(1:Int),[none,?d 1],?o h.symm,(o4 o5:?kD),?a3K i,let s:=(?EN);?d1,spot*?DA,Lat.ChainTo,"right",?a21 p1,C3 xs ?bS,show ?dR=0 from ?bO,?a2C qD k,λx a=>R x ?f4,#[rfl,rfl],spot+1,#[h1,h2],φ a (?a7G ?hT j),?a4G p,?a7S (λc=>?OR*?tS),c<=k/\k<r,qe6 ?bA O9m,["size","i"],5*k+k*k,downS ?oA i (?iZ) ?H,?s ds,?a1T p2,kX Da _ _,#[q1,q2],j7 t Da p,ps[i]?,(ls:?k5),SameX p H H',((?yH)),?aQ w ?lQ v i,(ps:?bL),(?A7 s3).trans s4,h.ok.n,(fs j),#[p,hp,rfl],FO n w i j f l r,"bool",Kq lf ps,Fk c p,kP ?qI ?kO,Jo ?fS ?l5 (?hK),?a45 A0,V3 k w Q p,Lev q m z D L G,x.right,qa5 (E3 _ _ _) Da,.(λM' e=>by cases e),qs.map,Au ?lY k,?j h2,nd ?e7,∀j c,?gG->j<w->c<w->(r.1 j c).natAbs<=?BN,D<=?bQ,[?e (-a),?e (-x),?e (-y)],L8 xs k (?cN z l.2 L i),?gD / b.1,(L r ?iQ).natAbs,w.getD ?H 0,?a51 p1,K.head,sp.zip ns,Em (Jo ms p.1 p.2) ns,?aQ w B (Q i) a,#[i,_,rfl],?dK=?cV,(L N:Addr),Ah ?KA,?a5P S,n+b0<β,2 ^ 10,["a","one","b",?p4],bs.map V.bl,if ?hL=e then ?kY+1-?h5 else ?kY,i<vs.length,["gauge",?fR],QE i M,.(show k+1-1=k by omega),?m hq,L j ?iQ,r.length,λi=>?B3,?a45 Nat,qi1 _ O9m,?a3Y ?x9,?a3Y K.pos,?LI Kq lf,q.1<?g1,S x0 x1,?j ?a0,#[X,e,hX],?a3K f.toNat,Au ms p.1,?aQ w ?lQ (Q i) b,q.1.toNat,f i / g,?D ds,h.diag,(fs k),?n6 O9m,?a1T p3,kt ?p,#[_,rfl,q2],#[k1,g,d,tk,os],∀x∈xs,x.length<=4,#[as,ra],β+?jY,f i∣f j,Gg O H vs lf,(f:?t),rawInt,λr=>B ?fF,F4 ?uJ j,U m M l r,qd3.mp,?C9 xs k,(?d M),#[ta,vs,rfl,hT,rT],λk=>B k a*R k ?eN,["_law_script","_law_k"],fs.length,hs.length<=40,(?aR hi).1,x.lback,w.drop,?a3N ?pA,B a c',Nj w r,Str->?k4 ?l9,Du m z L p,PB j b,Xi Da k v,?e w[i],?a5 Bool,(Gs k),{ cls:=?uL,data:=.fields #v[?bZ,?oB ?qB,?f ?cE,?yN 0,?bZ,?bZ] },[none],Jo ms k n,?a3K ?y7,(lp j),n.natAbs<?rF,Xi Da _ _,T.n_isinstance,j<=spot,.(by omega),p3  x0 H,qc9 hi,2 ^ d*?BJ,σ=?xH,q∈?aV,?c f a,qn7.mp,β+?q3<=big,its.toArray.size,FP K C B p xs ls,sp _ _ D7,x.rback,λx=>M x (s y0),Lat.Straight,A0->A1->A2->?a6Y A3 A4,IsEnumOut,Lat.Mat,λb=>?BF,qa0 ha,F.binds hb,nX B n,s2.trans,P' x a,bs.any id,i<sp.length,Ep π b i,g.1.toNat,?a5 Addr,2 ^ d*e.natAbs,α->Int,?d (?N),?j (?a5F ne),?c (λk=>x k*?a4 w T P k ?h9) j,w7.extBut,F4 g n,?OP b=?dU->h'.get? b=?dU,?a3L p3,2 ^ AF,["spots",?fR],λz=>?SC,(O:Hp),λx=>M x x,Lat.Shares (f i) (f j) g a b,Lat.addS,?F H0 H,Ah λb _=>?dO,.(by rw[Iu]),(K5 e),?a3W (λk=>?o8*?qN),?a21 p2,(ML e),.(by simp<;>omega),qc4 _ rfl,?mM i++[(w.getD i 0+?x7)%fam]++?z1 (i+2),(?f C),A0->A1->A2->A3->A4->A5->?aL,i<w.length,?a2E S,#[hp,g,d,tk,os],s.eqv n ?u,λi=>?OD,?a6E ?S,p∈?aV,(Gs j),?e q.2,?gD*?sW,e.natAbs<=?bQ,eW n*?gH,b0<=π,(?LY+1),rv.get,(P,PB),i<=ms.length,2 ^ b2,(zs j),a2 a ha,#[as,a1,a2],w6.extBut,hasDict_toPDs ds,hs[i]?=?eW,i<ms.length,((i+1:Nat):Int),?a1W ?fK,?p9+f n,Nj w (Q,QB),Lat.beside,qe4 hj,0<=g.1/\g.1<?cY,2 ^ η,qa5 bl.zm (?wV),"dict","tuple",#[j,hj,rfl],w.map ?X,(ms ns:Ms),ChL.nil,w5.extBut,Ry [x,y] e,h4 x ?tG,∀p∈ps,?TD,(?cZ i).map,Gi _ _,?c (λa=>v a*?TG) w,Lat.mulV,if ?dA then(p.1,v) else p,Bv P w K mg ?O Eo k f fd ps sp,"__ne__",[?dC,?fR],let s:=?B7;G s,(k:Nat),[?e b,?e u,?o5],?a64 S,(?a54 hk),2 ^ ?p7,?a1T p0,.(by rw[Al ne];exact h),?S6=true,2 ^ IL,(ks k),K2.st.good,?dT ?f6,#[?EL,H,I,rfl,q],eW i*(?bR) ^ i,["self",?mK,?kI],?A9=true,.(by simpa using z),[?gU,"j"],0<=q.1/\?y0,#[_,b,eb,hb],h.plus,"_law_total",?a3W (λk=>?qN*?pI),cM π i,U2 xs k n,(!(?a2Z ?d)),#[i,hi,rfl],(Ls j),H a=?cV/\?JF,I.tuple,Nj z ?BL,?a6E 0,?e (w:Int),wF ?L6 c,s.1 j (?qR),x.left,(?lN).map,b.2.2.1,(?eJ hp).1,(?aR hq).1,(h.b q),λb=>?WC,k D H1 hD s1 D7,?A2->?Q1,Co ?g,bl.fin.bl.1,ms.getD i (0,0),?b8 hb,U m M' l' r',σ=?CP,"_law_family",b2 a ha,if a=b then 1 else 0,?a1T p1,?c _ i,(i:Nat),p.1<?g1,Lat.EuI,?a36 v y,MD f k0 z,?a2C Ft k,?a45 Shared,h.ok.z,Array ?l9,2 ^ β,"left",(rp j),qh4 ?f6,(R k ?kZ).natAbs,p.2*?hQ,.bl true,i*n.natAbs,?a1U S,∀(st:?z6)(hB:?Q9)(b2:∀q c,q<m->c<w->(B q c).natAbs<=2),a,∀(ge:?a4Z ?dP n)(gj:s.heap.IsTupleIter j t n)(gt:?Z8),a,.(by have e:?DX=?oQ:=?KB),.(by have hl:?a4D ?hZ ?fY:=?AW),∀(h:?wT)(tw:∀c,c<w->?a2T (λa=>?fE)),a,∀{A0 A1 A2 A3 A4 A5 A6 A7:Type}{S:?a2P St},a,∀{p L R nm:Addr}{n w:Nat}{M:?qP}{l r:?aM},a,.(by have h1:=?OM;unfold Jc at h1;rw[qb7]at h1),.(by apply(?a4J pr)),.(by apply(?a4J p)),.(by let(?a2L _):=x.ob),∀(hp:?a7I C fs)(sx:?wD),a,.(by wp_walk using wpAny_loadPart' q1,qn4 gt),∀{ms ns:Ms}(h1:?SL)(h2:?a1W ns),a,.(by subst z;rw[ha]at e2;cases e2;exact Ab),∀(K:?J3),a,∀(dg:Hy z w k E ?lQ P PB Q QB f),a,∀{st:Stmt}{ps:?B}{k:Nat}{sp:Sp},a,.(by apply ite2 (λh2=>?_) (λh2=>?_)),.(by rw[←Ay];exact Ah λc _=>?iG),∀(t:?LW),a,∀{e j t:Addr}{n:Nat}{vs:?EE},a,∀{mg:?z5}{base:Heap},a,∀{p C dx:Addr}{fs:?a58 Str},a,.(by have mn:=dg.mn;have mw:=dg.mw),.(by let ?HN:=?DG hq),.(by rw[?AH,qf8]),∀(ns:?y)(lo hi:?k4 Int),a,∀{ms ns:Ms}(h1:Fy ms)(h2:Fy ns),a,.(by rcases ql0.mp hp with h | h),.(by unfold lev at la;simp at la),.(by unfold lev at lb;simp at lb),.(by exact ?nV),.(by let#[q,hq,rfl]:=?rV),.(by rw[hlen];rintro ⟨_,z⟩),.(by rw[hlen];rintro ⟨z,_⟩),∀(l r:?aM),a,∀(tp nm r1 D1 D2 b2:Addr),a,∀(hu:X.A.units+8<cLine),a,∀(hc:?I4),a,∀(he:?BG),a,∀(D:Addr) (us:?v),a,∀{α:Type}(g:Nat->α),a,∀(I:Bn X Ae σ H s),a,∀(g:?HS),a,∀(hK:X.K=K:=by rfl),a,(OU H d),?aQ m D (?g3 z P L i) x,?p8=?jY+?N3,∀x,x<k0->0<f x,#[o,q1,q2],m<sp.length,[none,none,?d 1],?a3W (λk=>(x k-?u3)*R k c),.(by rw[←Ah3];exact ?fW),"starts",(σ'=?XU),Q (?f tp) H',h2.length,Gn hx hy ne ?IU,cF lf acc p,λj c _=>?sE j c,#[hi,b,rfl,hb],E5 hn hm,bootBuiltins,.(show(?dM+1)=?BV by omega),?a45 DM,∀x0,?p6,(?hJ).toNat,[a,b,c,d],?a1Q p1,i=vs.length,t.lev hj,"start_of",(qx5 _ _),AN K H H' tp nm r1 D1 D2 b2 n w k f l r,?c (λl=>(RB l a-?mY)*?j5) n,?a3W (?qM),λj hj=>O9m,D.nx σ H,?a3F (λi=>?OR*?g3 z PB L i d),hk1 c q z e2,β2+Gq π2 b2 i<=big,S x0 x1 x2 x3 x4 x5 x6 x7 x8,Hm xs k hs hs.length ns c,#[n1,n2,n3,n4],φ (?uA),h'.IsTupleIter,Nat.log2,?a1L p3 Sg,At t2 u3,?c (λj=>?xS*Z j l) ?fF,["j","i"],h1.lv q hq,(?TB .Eq),?a64 p0,?a55 1000000,?a7S (λa=>?hP*?fE),(?y4).length,Ci.start _ _ _ _ _ _ _ _ _ _,#[u,hu,eu],?a1M p1 x6,?g3 z P G i a,?a1U p5,x j*hd j,λq hq=>let h:=Cu (h.key q hq);?NU,(vs++[v]),#[its,rv,p,hz],wF (λy=>Ry (?a3K y.toNat) q) ?fK,if c=c' then 1 else 0,s _ _ ?iM,hk1 c r n1 e2,F3 n w r E e T,#[?gQ,?lO],.(by simpa using h4),λq=>z ?rN,λi=>r.2 (k0+i),?a51 p3,(vG d).hasDict,?a46 Ft,(?DX).1.toNat,let u4:TS:=?RT;?L7,(ns:?y),λi=>f ?bC,ChL xs ?S c,?mM (?uK),bookF+bookF,?UZ<=?LY,let s:=(?B7);?d1,MZ K R vs H1,#[its,rv,pl,hz],#[q0,q1,q2],bl.fin.br.1,upd (?a30 0) N0 (?D [?qX,?e 0,?e 1]),List.map_id,#[i,hi,e],λc r n1 e2=>?_,?a1L p5 Sg,?p0*?tP*(?eO*L b d),?j (?S9),?pV=0\/?pV=1,let s:=?CP;G s,(h a z).elim,Nat->?A2,?a1Z fl,(A i c).natAbs,s _ _ h1,{ cls:=?mA,data:=.seq #v[?PZ,x] },(?KC).length<=?a7B ns.length,λj h1 h2=>?_,λz _=>?NN,toPDs ds,λ_=>rfl,p.2.1.length,?F H G',["part"],p4  x0 H,Pv i σ H,(qb1 hi),So n ?P w r kt hd ?fL,(?E2).2.2,?a3F (λj=>?eX*L j c),#[a,b,c,d,rfl],?a7B 1,λx y=>M x (s y),#[D7,sz,?S5,Ab,?_,_,rfl],?ED p hp,q.2.natAbs,.(by unfold one;ext FE),#[rfl,rfl,rfl],(Pt hq).1,B4 H us ps,λx hx=>?_,?a3N ?KQ,AF+bookF,?a3E p0,gT m G B a c,?a1T p4,λspot st s' hs hI hB hex=>?_,x m*T m c,Au (?sI).2.1 q,mainGlobals,[?eV,"j"],let u8:TS:=At t8 u9;?NM,.(λp hp=>by cases hp),hk k O9m O9m,Nj n ?BL,Ii ?aF u,g.trans gp,#[a,vs,e,q,r],wpAny_callSpecial?_slot,?a4B (Dh (?kG (?hZ))) e,λx y=>?a3X (s' y),Hy n w k D A l.1 l.2 r.1 r.2 f,I.hok a _ ha,hP i (c-w) hi O9m,let u6:TS:=At t6 u7;?U3,?oL j hj,B j a*?qC,hp p ?aY,.(by rw[qc6,qc6,h0];rfl),(?a3K ?XZ).length,λa _=>?_,.(by ext eA;rfl),Em ms ns,(?dM)=(?E6:Int),gp _ _ Eu,K2.st.st,Good n ?P w n ?fL PB R RB,["old","new",?YV],#[d,hd,rfl],?aQ w B (Q ?bC) x,h'.objs.size=?mH,#[t,a,b,c,e,h1,h2,h3,h4,ne],?a3F φ,I.ok.hd hc,bl.fin.bl.2,"levels",?c (λy=>?tO*?pA) w,#[f,fd,a,b,F],w.length=1,.(show(?dM).toNat=i by omega),Au ns p.1,ly.keep s,?a37 a xs,Rep K H v d,?a3R H ?A,I ?p s',?a5U p,?a4A (λc=>c<w),eG t Da hk hp,?a3E p2,?a55 40,#[e1,e2,e3,e4,e5],(Au ?e7),let u3:TS:=?SZ;?NT,gs.foldl,#[_,rfl,_,_,rfl,rfl,_,rfl,?_],if b=a then 1 else 0,X.A.units+1,?a4L D D2,∀x0 x1,?mR,#[(Cu h).1,(Cu h).2.1],Vm (?m #[o,ha1]) hat,λb hb=>?_,p.2.natAbs,ls.foldl,"_law_without_noughts",#[?PG,[]],π2<=8990,hk1 _ _ nab.symm h,vs.length=ps.length,.bl (?A9),E9 K n q st f fd,sx _ _ (Fo h hp ?fP) h,h.mono hb,U2 xs k ?G,?a2E p5,q.1∈?vR,(?q1 ?UV),?a5G 4,{ s with heap:=h' },2 ^ r*e.natAbs,Uj j*A 0 j,.(show ?KD by omega),?a20 H M,Nat->?kV,nX (λr=>?x6) i,λj=>?k (?a6V j),List.Nodup.sublist (qu3 _ qr8) h,let s:=(?mO);?d1,((1:Nat):Int),?dB ?hO sp[i],(s'.1 i),i<l.length,XX n w A D,(G D=?m0),?a21 p3,?a25 p2,eW i*?tK,blend_row_ne O9m O9m _ _ _ _,ind x e-ind y e,?a5T (i-r+1),Au ?gM e,(?eJ h).1,λa=>a=nm,λ_=>true,s _ _ (λz=>by rw[z,hb]at h;cases h) h,s _ _ hp,#[_,ge,rfl],VI w (f i),?c1 b ?c3,.(by simpa using e1.symm),?a1U p7,D6 n W w i G R0 B0 t π b ?p s.1 s.2,.(by rw[qh2];grind),SqT K H1 a xs,?c1 a ?c3,λr c _ z=>z.elim,.(by simp[Em]),.(show ?vH=?M7 by omega),λt=>Ee.start _ _ _ _ _ _ t,ls.length=4,?a5T ?p7,?yJ+?VM+(?a5J spot+3),?a3F (λb=>P y b*(?YR)),Lr.mp hnd,Uj ?bG*A 0 ?bG,wpAny_attempt,λi _=>?_,[?fR,?dN,?dC],?a1M S x6,Nat->Bool,?qD f ?t8,(?gL-1).toNat,?a21 p4,sh.blend,#[r,hr,rfl],?a7S (λa=>?HI*?fE),?a69 v ps,(qa8 ?a0).symm,Ek ks _ e,let u7:TS:=At t7 u8;?K4,.(by rw[e]),Y k d f l r,?oL r O9m,Au (ns.take i) k,GL hu (Gi xs k),["one",?p4],let u2:TS:=?H6;?R5,#[h.1,h.2.1,h.2.2],?q4 xs ?S ms,s2.seq hb,"numbers_at",P8 n w A (P y) v,P7 n ?m6 (?a4 w A one) D,C3 xs ?S,Fin k f l r,hT i c hi h,"numbers",?u6+1-?h5,2 ^ kB ?bH,p3 x0 x1,?a51 p2,?kA ?k9 0 lo,#[t,rfl],qM h.ch pb.r,g x σ H λσ1 H1=>At t1 u2 D' σ1 H1,h.IsTupleIter,?mM i++?z1 ?H,Nat->?aM,[?dN,?fR],Rm xs ?c5 ps,eqD d e=true,(?a50 ta hT),us.length=ds.length,λi j=>?TS,Ek rp _ e,?yR hcb r hr,[?oR,?E1],?hY+?nU*?g6,s.heap.get?,h1.trans,?g3 z P G i c,(Oo xs k i j).natAbs,det n (Hf (Yq A ?bG) i),?a1L p4 Sg,?e (?iY),0<=f/\f<40,∀t∈?f8,?cQ (?wO) t.2,J6 xs D _,#[q,hq,eq],(cZ ?q),b'*f j / g,let u9:TS:=At t9 qN;?JR,∀j,j<i->(s.1 j ?eN).natAbs<L9,#[c,q1,e0,e],HM f k0 z,F4 (a (c+1)) n,(?sD).objs.size,n*D<=?bR,.(by ext eA;exact ?gP),?a65 ?f5,"faces_agree",λi=>(?t9).getD ?qB,0<=p/\?rQ,?a2I H',sH.trans,[?N,?c0],?aA h O9m,"one_row",upd G2 pr (?D [?e j,?e (M i j)]),?a4W H N,B7 xs ?gM,Hl.first,#[x,hx,ex],.bl (! ?S6),λa=>f ?f4,?a3Y h.pos,[?EG,?vP,"a","b"],Au ?fX q,ha.typeIs,sa.seqT hq2,Py H vs ls,x.same _ _ e,K1.st.good,λy a=>u1.1 y ?f4,?e n tk,ps.foldl,?aM->?qT,det i (GZ V Z i),T.n_enumerate,?a6Q p0,C3 xs ?a6,λc q e2=>?_,"add_at",?a1L p0 Sg,∀q c,q<m->c<w->B q c=?a3F (λi=>L i q*T i c),(?D vs),(one i j).natAbs,#[p,hp,e],?a64 p2,?a1M p2 x6,λr l=>?a4 w T one r (s l),hh d ?g j ?g,Reps.x s hb r,DK _ hnb hbk,setField,Ry (?M (?g2).toNat []) (?iF i 0),lfL φ q ps,?L8 (lift1 fl) lf,k2 ?mP ?u,Au (?x4) q,j<p.length,?aV++C3 xs l,#[bs,b1,b2],O8 HR r4 t4,zN x y H Q,spN xs k i,?vO k0 k0 f,(?F B H),(p4 x0 H),Q (?LO) H,λLz=>Lz _ _ ?vV,Lat.sumN_one,?c f (a+b),?a5N (?RH),?a3L p4,qc0 _ ?GQ,At t1 u2 D' σ H,λj=>?TS,hf _ (CO hj),El O H' vs ps,#[o,ho,hc,n,hd],ok _ O9m,?a57 ?aF G,uO K x y H Q,?a1L S Sg,Uj ?H*A ?H 0,Au ?g7 q,y k l*?qN,qc2 h2.2,?a1Q p2,"is_list_of_few",#[_,_,rfl,rfl,_,_,rfl,rfl,_,_,rfl,rfl,_,_,rfl,rfl,rfl],List.Pairwise.filter,?a1W m,Ep π b ?H,[rS ta,o1,o2],LF D nm r1 D1 D2 b2,?zZ n w M',∃x y,x<k/\y<k/\x≠y/\r x=r y,?H3 j t ?G,At t4 u5,Oj ?dP b ns,det k (Hf (?K0) i),λi=>r.1 (k0+i),h.told tw,.seq vs n,"pieces",F4 (a 0) m,{ s with heap:=h',toks:=s.toks+1 },(ms.take i).map,?a6P S x9,readsAll_of,s1.turn hD,sameC ms ns,k D ys H1 hD s1 D7 r1,k3.push ?IR,?a5F h,?a3W (λk=>?mT),[?XO,?oR],.(by cases z),(ms.any λp=>?k (?dA))=true,?a25 p1,#[a,us,e,n,h1,h2],?a25 p3,#[?gN,Ab,rfl,?A,?A,rfl],?iW=none,if ?cM=0 then [] else L8 xs ?a6 (r.1 i),#[_,rfl,_,rfl,O9m,O9m,?cK],?a1W ms,#[c,hc,h0],λd hd=>?dY (m3 d O9m) O9m,?k7 f k0 j,J5 fs f i,?a1M p3 x6,hs9 j O9m,.(by simp at z),s1.seqT hq,?S4 I ds hr rv,Vd H ?n5 a,xs=[?aW],Nat->?a6Y (?r) ?c4,?a5T ?nU,At t3 u4,X.calm=true,DU ns ms h1.n h1.z h2.n,s3.trans,(?a5S hk),#[c,e1,e0,e2],Nat->?DU,(tab j z),?a3W (λx=>PB x b*?UR),V7 xs ms i,lift1 fl lf g,EK ms p.1 p.2,compareOp,w.length,Nh ?d9 p,?a57 ?aF L,#[h0,h1],QB ?bC a,.(by have:=(?aR hx).1;ext cT),ls[i]?=?lU,?a6B n,λT1 hT1=>?_,(tab k z),w.length=0,?a3W (λu=>?c (λa=>?A8*PB u a) n*P u c),det n (Yq (Hf A ?H) j),a=nm\/a=r1\/a=D1\/a=D2\/a=b2,(Vz _ n),?a3W (λj=>sg j*?a7S (λa=>u a*?vY)),if j=i then 1 else 0,.(by simp at e),?eO*L b c,At t5 u6,let u3:TS:=?SZ;?UJ,∀i,i<n->?zT,(b4 a ha).2.2,?qD (λr=>f ?fF) m,(?mM i).map,λ_=>Lat.one,#[_,rfl,_,rfl,rfl,_,rfl,?_],let u5:TS:=?TV;?I1,#[a,b,rfl],.(by unfold K9;simp[e]),?a3W (λj=>g ?bG),Bool->?aL,uY φ q p,"_law_faces_by",(Au ?g7),λi j h1 h2 h3=>?_,gT m G B b c,Kq (Q4 lf p) ps,wF (?c1 xs (Au ?tY)) D,Wu t Da hk hi,?a4 w T one j (s l),"across",(ls.map (lfL φ q)).sum,let u2:TS:=?H6;?OB,Gg O H' vs lf,F.entry_enumerate_next,(β+?eZ),2 ^ 8000,(qq4 _ _),?a1Z ns,j<l.length,?a3W (λa=>P x a*u a),Ja W ?M9 st,?a7H (?sG) c,?tV::(?CE ?xU),"isinstance",Au ?fS ?l5,#[u,hu,ru],(ML q.1),F4 ?uJ r,[?dN,?dC,?fR],Hy n w k E A P PB Q QB f,?a1L p7 Sg,"is_whole",.(by simpa using h6),b.fin.il,.(by rw[qa1,?e6,ej];rfl),λj _=>?oL j,as.drop k,?a1L p1 Sg,h.ch.ok.n,#[q,hq,e],?c (λi=>if ?YA then ?oC*Au (?eI).2.1 q else 0) ?bH,h.2 i v e,Jd ?tM k,BB n ?P (?sN) (?uB) (β+?AB) s,λx y=>?a3X (s y),?a5 Expr,LX H CL R r2 b2 ?A w w r ?n5,?a33 (?EL),?a1U p6,X.natAbs<2 ^ (bookF+176),?a5T (spot-r),?bJ ?qV A (pyNext ?dS) Q E s,I.list hq,(Mg ?rE),∃z L G,?a6B 4,dI n r i kt (?OO) s.1/\BB n ?P (?sN) (?uB) (?yJ+?SY) s/\?P3,#[#[_,h],?gQ,?lO],?a5P p4,let s:=?EN;G s,(?b9).natAbs,λhnd o=>?_,?a1L p6 Sg,?aO-(m-1),UF n w D π β π2 β2 b2 A m M l r,λpa Ha sa qa=>?_,if ?lK then 0 else ?x5*?HO,#[a,b,c,rfl],(qb1 hq),λ_ _=>rfl,.(by ext a0W),if ?e9=k then c else 0,Uk φ _ _ ?wI,gT m G B j c',?t5 i O9m,.(by have:=dg.mn;have:=dg.mw;omega),?a3Y h.ge,Fk c b*?sW,FQ ms fs n j,[?j6,"faces"],?a1M p0 x6,h.lv q hq,hok q ?W3,"is_straight",vs.length=ls.length,hb.typeIs,w2.extBut,F4 ?uJ (r+d),#[a,us,e,h1,h2],hk ps ?aY,"without_borders",xs[f.toNat]?,hl b ?aY,λ_=>?iX,(one,one),[?f nm,?f r1,?f D1,?f D2,?f b2],?a7F H',vs[n]?=?d x,"_law_words",?a1L p8 Sg,(p dx:Addr),?a7B i,["j",?dC,"i"],h2.lv q hq,λm hm=>?_,?a3K ?I0,(?C9 ..),g.sq.row0,"shared_divisor",j6 ms n ns i,K9 d=false,?a4B ?gR e,?a1W (Dh (V7 xs D D.length)),?DK / p.1,.(by rw[HT.sIx_nat];omega),Builtin.Dict.addrOf,.(show ?a7G ?hZ j=v j by rw[qa1,R6 hj];rfl),(?kC).natAbs,.(by simpa using e2.symm),?a1Q p0,?a3R H' ?f3,F4 (a 0) r,qc0 _ O9m,i<=ns.length,(?h ?hB),"_law_i",Oj ?dP a ms,#[_,c,hc,e],λj c h1 h2 h3=>?_,(?cZ z).map,"_law_cell_at",[iS n,iS p,rS L,rS N,o4,o5],?c (λy=>?E9*Q y c) (k+d),?a64 p1,(?s us),∀ps∈ls,?Y6,ms[i].1.toNat,E9 K n n st f fd,w3.extBut,#[q,hq,rfl,rfl],#[?aX,?gN,Ab,rfl,?A,rfl],[?dN,"old",?dC],λy x=>M x (?a24 0),∀p∈ps,?oN/\?x0,?a5U a,HY p ?oG,λx y=>M x (?a24 0),(?eI).1=1,QB ?bC c,.(show ?vW-r=(spot-r)+1 by omega),?c (λj=>?LZ*det n (Yq A j)) ?G,∃p,V3 k w r.1 p,?a4 w T P i c,its'.toArray[j],.(by rw[e,eb]),j5 h1.ok.n h2.ok.n,if i=y then f i else 0,beside_hi,qf0 _ O9m,?c g ?G,pN ns lo hi,T.n_tuple,let zY:TS:=At yF u12;let qN:TS:=At QD zY;?P2,H c=?dU->((∃l,o=?D l)\/∃l,o=.dK l)->H' c=?dU,?y6-f i*?p0,#[c,O9m,h2,h3],"column",upd G p (?D [?bI,?c0]),"quotient","_law_whole",λa ha=>?_,O b=none,?a69 v p,"_law_level",ys.length=i,?A1 h' e j ?cX x ?cE,?oU*e.natAbs,s1.heap.objs.size+1,?a3E p1,?a25 p0,?a1L p2 Sg,?nZ t vs,hall2 i' O9m,let s:=S;?d1,its.toArray[j],?a1Z acc,"level_of",.(by let#[x,d,rfl,hx,k]:=h;apply(?a6L (M5 (?a7N (Fz (v:=.ty "int") rfl T.n_int boot_intT rfl)) (Pa (rJ (?a7N (Fz (v:=.ty ?wM) rfl T.n_bool aF rfl))))));apply#[_,rfl,_,_,d,rfl,?h rfl,hx,_,rfl,?_];apply ite2 (λe=>?_) (λe=>?_)),.(by have h1:=?OM;unfold Jc at h1;rw[qb7]at h1;have h2:?a4C (?t4=k-1):=?g4;rw[qb7,qb7]at h2;exact ?R2),.(by have G:=F.agr ?c3;have e1:=G 0 1 b a _ _ ?bA rfl rfl gb ga;have e2:=G 0 2 c a _ _ ?bA rfl rfl gc ga;have e3:=G 1 2 c b _ _ ?bA rfl rfl gc gb),∀(g:?HS)(K:?J3)(s:?KG)(st:Du ?P n R t)(tab:∀j,j<r->t j<w)(ker:∀j,?f1->j<n->t j=kt j/\?qC=hd j),a,.(by rintro zs τ G1 ⟨s3,fS,hzs,_⟩;apply#[D,_,rfl,?h #[.of fS,?TK]];have s4:?F G1 (upd G1 T1 (?D zs)):=?b3 hT1),.(by let ?Y2:=Ma hx;have hlt:?BU:=?DQ;have sp:?a4N p (?D [?e q.1,?BE]):=?hF),.(by apply ?OI;apply Hg (?z) ?_;exact#[_,rfl,k _ _ (Same.refl H) hu]),.(by let#[A,ha,ga,la,ca]:=?MX;let#[B,hb,gb,lb,cb]:=?MR;let#[C,hc,gc,lc,cc]:=?c1 c ?c3),∀(p:?LC)(hA:∀i c,i<n->c<w->?IP<=2 ^ b0)(dets:?NZ),a,.(by apply#[_,rfl,_,_,d,rfl,?m (?h rfl),hx,_,rfl,?_];have e2:K9 d=!ME ?wM d:=by unfold K9;rw[e];rfl),.(by apply ?m #[a,?b5,ha,?VW];apply#[_,rfl,a,o,?b5,rfl,Ab,?cK];let#[qG,nDa]:=y6 hD),.(by have h1:((?aV).map (Au (Dh (?kG (?JV)))))[j]?=?d (u j):=by rw[hb,R6 hj]),.(by intro Ae s σ H xs us Q I r h;let#[a,vs,rfl,ha,q]:=h;let#[u,v,rfl,rx,rt]:=Ze r;cases rt;cases rx),.(by show ?a32 2 _;apply qa6 (qh6 ge rfl (x:=?f j) rfl ?_)),.(by have e:=lE (w:=w) (n:=n) (f:=f) (g:=?PP) (h:=f) ?aG ?aG),.(by intro X hP hw hK hc i Ae s σ H E I hf st hg;subst hP hw hK;let ?sX:=st),.(by let(?a2L hrep):=x.ob;let#[r1,b1,r2,b2,lx,ly,f]:=x.li),.(by have hj:=(?aR e).1;rw[t.len]at hj;let ?vX:=t.lv j hj;rw[h2]at e;cases e),.(by rw[qb7,qb7]at h2;exact ?a5N ((?RH).trans O9m)),.(by have cm:∀C,?sU*C<=(?aO+1)*C:=λC=>qc0 _ (qp6 _)),.(by let ?o0:=qf1 hp;let ?y3:=h.w i p hi;rw[?o ?yZ]at e),.(by have f1:=p.f1;have f2:=p.f2;have fb:=p.fb;have hbF:XQ<=big:=?bX),∀{k:Int}{v:?t}(h0:?a5Q v),a,.(by have hi2:=(?aR e1).1;rw[qc6,qq2]at hi2;have ei:?GN:=O9m),∀(s:∀c o,?m8->?YQ),a,.(by let#[dx,fs,h1,h2]:=x.ob;let ?BQ:=x.rw;let ?QR:=x.bk),.(by apply#[?aX,?bY];apply k p [] _ hp (?hF) Ab ?_),.(by exact ?a5K o ?LQ),.(by exact ?a5K o ?MN),.(by rw[e1,?XF]),.(by subst ei;rw[?uD,qh8]at e1;rw[h0,?uD,qh8]at e2),.(by exact ?a60 ?LQ),.(by have hu:?a4D ?JV ?fY:=?AW),∀{c:Addr}{m:Ms}(h:?yL)(e0:?m8)(e:H c=?s6),a,.(by exact ?a60 ?MN),∀{H H':Hp}{C p r b:Addr}{sv:?kD}{n W:Nat}{s:?aM},a,.(by rw[(?tX).2]at hp;cases hp;let ?DD:=?DY),.(by unfold pD at this;rw[←this];exact Ah λc _=>by rw[qs5]),.(by have:=Cu (Vu hq).1;exact#[?gQ,?lO,?r9]),.(by rw[qb2,qe1];exact ?a68 h1 h2),.(by show ?a2K ?xB _;rw[qd6];omega),∀(hD:?a74 D)(bD:?a35 D ?rF),a,.(by have ht:s.TypeIs ?dS ?eU:=?MP),.(by rintro ⟨p,hp,e⟩;exact#[p,hp,?rG]),.(by intro c q n1 e2;rw[Al (Aq e2 qG),Al n1];exact e2),.(by rw[qb0,?e6]at h1;rw[qa1,?e6];exact qa8 h1),.(by rw[?EI,?EI]),.(by unfold Ng;rw[qd3];intro j hj;rw[qd3];intro i hi),.(by apply E7 λhm=>he ?_;let ?NH:=?nQ),.(by have hq2:SqT K H2 aw ?qL:=sH.seqT hq),.(by let#[a,vs,rfl,hq,hr]:=h;obtain rfl:u=?N:=r),.(by have e1:=cm ?eZ;have e2:=cm ?j2),.(by have s1:=sC ?eZ;have s2:=sC ?j2),.(by revert τ;apply sV ?_;intro hi1 s1 D7 r1 o Er),.(by rw[Al (Fo h hn ?fP)];exact h),.(by unfold Lat.mulV;apply Ah ?fQ;unfold Oo),.(by have hz:z<=40:=?C3),.(by revert σ;apply X0 ?_;intro ys o sH Nd r2 Er),.(by revert σ;apply mD ?_;intro o1 ha1 D7 hk1 Er),.(by exact ?a5K q ?CT),.(by have ne:b≠D:=λz=>by rw[z,hD]at h;cases h),∀(f3:?a3T H0 r2)(f4:?a3T H0 b2),a,∀{H H':Hp}{tp nm r1 D1 D2 b2:Addr}{n w k:Nat},a,∀(x:?GR),a,∀{X:Cx}{J:XJ}{j k:Nat}{C:Addr}{ps:?B},a,∀{fl:Ms}(h:?dZ)(hf:Fy fl)(g:?b2),a,∀(x:?a2I H),a,∀{q m z w k E:Nat}{D L G B P PB Q QB:Mat},a,∀{e o:Expr}{es:?VH}{ta:TE}{t:TA},a,∀(n w D π β π2 β2 b2:Nat)(A:Mat),a,∀{z m w:Nat}{L T B:Mat}{p:?r},a,∀{A:Around}{E:?tW},a,∀{es:?VH}{x1:Nat}{tpos:Pos},a,∀{n w D:Nat}{A:Mat}(h:?MB),a,∀{Q:?k4 ?l9->?EC},a,∀{ms ns:Ms}(h1:?bD)(h2:?m4),a,∀{n w k E:Nat}{A P PB Q QB:Mat},a,∀(dl:F6 n w ?fL PB),a,@(Bv P w K mg ?O Eo 1 f fd ?a (?b K)),@(?a x0 x1 x2 x3 x4 x5 x6 x7 x8 x9 ?b),@(?a x0 x1 x2 x3 x4 x5 ?b),@(∀σ H,?a->?C),@(At t1 (At t2 (At t3 (At t4 ?a))) D σ H),@(λ_ _ _ _=>?a),@(?a  x0 x1 x2 x3 x4 x5 x6 x7 H),@(?d (.dK (cK ?a))),@(∀σ,?a->?T),@(?a  x0 x1 x2 x3 x4 x5 H),@(?a x0 x1 x2 x3 x4 x5),@(?dL+sg 0*Ry (?M a.toNat []) e+sg ?a*Ry (?M b.toNat []) e),@(ChL xs k ?a),@(g x σ H λσ1 H1=>At t1 ?a D σ1 H1),@(?N8 (?JY (name:=Str.ofString "__next__") ht qs0 (ql5 qs0 ht ?UL ?a (F.args_enumerate_next_1 _)))),@(wF φ ?a),@(WX K CL CW H0 ?a p L R nm n w ?b l r ns),@(?a  x0 x1 x2 x3 H),@(?a  x0 x1 x2 x3 x4 x5 x6 x7 x8 x9 H),@(?a8 ?a ?a7),@(s (if y=0 then y0 else if y=y0 then ?a else y)),@(?a x0 x1 x2 x3 x4 x5 x6 x7),@(fr _ _ (λz=>?a ?rK) (λz=>?b ?sV) e),@(?d (?s ?a)),@(Aa ?a (Aa ?b Ad)),@(Ba (Be (K:=K)) ?l ?a ?aG),@(Fm X (?q1 "any") (λxs H Q=>∃(p:Addr) (bs:?zA),?SW/\SqL ?a H p (?xL)/\?QY)),@(show ?a<?b by omega),@(?a xs ?b z k0 L G f l r),@(?bJ _ _ ?a _ _ #[?b,g,d,tk+1,os]),@(?a x0 x1 x2 x3 x4),@(Bf ?a ?b Ak ?aI),@(SX CS H0 H p q M n W t ?a s),@(Rep K H v (dT n ?a ?b)),@(Ta K ?a tp nm r1 D1 D2 b2 n w k f l r),@(#[_,rfl,?a,rfl,#[_,?b],?cK]),@((?a).length<=?b),@(#[tv,dx,fs,hp,l1,l2,l3,l4,l5,l6,l7,?a]),@(upd (upd ?a p1 (?D [])) p2 (?D [])),@(mg ?a=none),@(Ci n ?P w r ?a ?b M B0 kt hd t s.1 s.2),@(A0->A1->A2->A3->A4->A5->A6->A7->?a),@((?M (?nP).toNat []).getD i 0=(?M (?rY).toNat []).getD (j-1) ?a),@(Ko λo1 o2=>τ=[o1,o2,?a ?b]),@((5*?J+?J*?J+1)*?a),@(∀x,x<q->?aQ m D ?a x=0),@(?d (?d8 ?a dx ?b)),@(?d (?e ?a)),@(?a  x0 x1 x2 x3 x4 x5 x6 x7 x8 H),@(h'.get? ?cE=?d { cls:=?mA,data:=.seq #v[?e ?a s.toks,x] }),@(?a (show _<=F by omega)),@(ms.length==ns.length&&ms.all λp=>?k (?dB ns p.1=?a p.2)),@(upd H L0 (?D [?e2,?e 1,?e ?a])),@(?c (λj=>?eX*?a) z),@(?bJ _ _ (field ?dS ?a>>=_) _ _ ?b),@(∀H',?Z->Q ?a H'),@(?a4 n (λi j=>u1.1 j ?a) r.1),@(∀q,(Au ?a q).natAbs<?b),@(?c (λa=>?a a*QB ?b a) w),@(SqL K H ?a ?b),@(LX ?a CL R r2 b2 ?f3 w w ?b ?n5),@(Cf ?q ?lL (Aa ?a Ad)),@(Ah λa _=>?a),@(?c (λc=>?c ?a z) ?b),@((?a _ _ _).length<=_),@(?a (l:=C) (by unfold lev at lc;simp at lc;omega)),@(?a  x0 x1 x2 x3 x4 H),@(?c ?a z),@(upd H ?a ?b),@(Ko λ ?eS ?a3=>C9 ?rS (LT K H v xs) ?i0 ?cL ?a),@(Dh (V7 xs ?a ?b)),@(?d (?a[?b]' ?d4)),@(?M ?a []),@(?a  x0 x1 x2 H),@(WX K CL CW H0 H p L R nm n w ?A ?a r (Ii m f)),@(?c (λc'=>?hD*?a) w),@(show ?a=?b by omega),@(by unfold Au;rw[E5 ?a ?b];rfl),@(SX CS H0 H' p q M n W t ?a ?b),@(LX ?a CL L r1 b1 ?b n n l ?r0),@(Br (G6 (K:=K) qd7 qg1 qg0 Fi ?bP (Aa ?a Ad))),@(?a ?b=Option.none),@(A0->A1->A2->A3->A4->A5->A6->A7->A8->A9->?a),@(?d (?f ?a)),@(?c ?a n),@(?a4 w A one ?hW ?a),@(?a j h1 h2),@(Ea λo=>τ=?a),@(λr hr=>by rw[qi9]at hr;subst hr;exact ?a),@(Rep K ?a (?f D2) (dT w w λi j=>r.1 j i)),@(Rep K ?a (?f D1) (dT n n λi j=>l.2 j i)),@(L8 xs ?bS ((rp k).1 ?a)),@((?a I1 D1).headD ?d6 ?b (show j<i+1 by omega)),@(?a->Prop),@(?a xs ?c5 ?BO (ks j) ?DE ?BD ?wJ ?zG ?EH),@(λi zs τ H1 _ hz=>by let ?a:=hz;exact e),@(vN i j g a ?a f r),@(det ?G (?a A ?b)),@(Ci n ?P w r i ?a ?fL PB kt hd t s.1 s.2),@(Au (B7 xs ?a) ?b),@((?u9&&?k ?a)=true),@((?a).length=?b),@(show ObjOk ?sR X.w H ?dP a ?a from ?K2),@(show ?nZ ?a ?n2 from p),@(H0 ?a=none),@(A0->A1->A2->A3->A4->A5->A6->A7->A8->?a),@(A0->A1->A2->A3->A4->?a),@(#[?a,_,rfl,?fW,rfl,_,_,rfl,_,_,rfl,rfl,?_]),@(mg ?a=?AG/\∀H,SqT K H a ((?b:?y).map ?X)),@(mU n w b0 ?a π b β ?b π2 b2 β2 C1 C2 F),@(JL n w r M B0 kt hd π b η β ?a t s),@(?F H1 (upd H1 ?a ?b)),@(λj hj hn=>?a j hj hn),@(λi j hij hj=>?a ?bC ?e4 O9m O9m O9m),@(show v=?a from h),@(qy1 ?a (λkey=>?_) ?_),@(by unfold Aw;rw[?u1,?t0,?o h5,?a h7]),@(by rw[Al ?a];exact D7),@(SqT K H ?a ?b),@(Rd ?a b (.dK (cK ns))),@(LX ?a C p r b sv n W s ?b),@(H1 a=?d (.frz ?a ?gX)),@(?m (?m (?m (?a rfl)))),@(?d3 ?a e j ?b old),@(#[_,rfl,?a,_,_,_,rfl,rfl,?b,rfl,rfl,_,rfl,?_]),@(?a  x0 x1 H),@(?a (λz=>by rw[z,qG]at e2;cases e2)),@(φ (?e9)*Au ?a (?e9)),@(λx hx=>?a x (qb6 _ hx)),@(ms.length<=?a),@(k x0 x1 x2 x3 x4 x5 ?a h0 h1 h2 h3),@(?cF z ?a ?bB ?b),@(?a5 (?a × V)),@((∃old,?d3 h e it ?a old)/\?OC it a ?b),@((?a).natAbs<?b),@(λp hp=>N1 t Da hk (hc.key ?a hp)),@(Uh n w M l r ?a),@(?a ?fG ?uG (Au ?fG ?uG+n*(?jV).2)),@(?a (by simp[h])),@(λz=>?a ?d7),@(Sn xs ?a zs ks Ls Gs fs lp rp ls),@(H ?a=?d (?D [?e p.1,?N,?c0,?f2])),@(Fl ?a (by unfold IL bookF;omega)),@(?hY+(spot-r)*?g6+?a),@(?h (?m #[?a,?b])),@(k x0 x1 x2 x3 ?a h0 h1 h2 h3 h4),@(g x σ H λσ1 H1=>t1 ?a σ1 H1),@(Pc (qc2 h2.1.1) (qc2 h2.1.2) ?a),@((if ?t3 > 1 then ?t3 else 1)-?a),@(?a x0 x1 x2),@(∀x,x<?n1->?CH ?aF ?sS ?a x=0),@(∀c q,c≠?a->?t1),@(λq hq=>?a q ?p1),@(Sh ?pL η r ?a),@(H ?a=none),@(De (?a).length),@(Al (ne ?a ?o3)),@(Ah λj _=>?a),@(?sL (i:=?a) ?b O9m O9m),@(?iA (?a:Str)),@(?h (?h (?a))),@(?eP K ?a ys ((?CE ?BA).map tI)),@(?bK λx hx=>by rw[?a x hx,qd4]),@(?bK λa ha=>by rw[?a a ha,qd4]),@(?a x0 x1 x2 x3),@(?a ?gW ?iB (Au ?gW ?iB+AO n j)),@(Rep K ?a (?f r1) (dT n n l.1)),@(Rep K ?a (?f b2) (dT w w r.2)),@(ql2 (?a i j hi hj) (?b j c hj hc)),@(h.2 i ?a ?b e1 e2),@(YS ?a (by have:=p.π9;omega)),@(Of xs ?a ls z L G),@(Nn π b ?a r ?b),@(FF ?a ?b id hD qF),@(Cv xs ?a),@(BB n W C δ ?a ?b),@(?aD λp=>(p.1,?a)),@(?a (?b xs ms i) _ _ _),@(?a x0 x1 x2 x3 x4 x5 x6 x7 H),@(Dm (K:=K) (n:=2) ?q (Bl (Ap (i:=0) ?a) (Bl ?b Dl))),@(?a x0 x1 x2 x3 H),@(#[_,(Ai (Bb ?a)),?_]),@(At t5 (At t6 (At t7 (At t8 ?a)))),@(?a x0 x1 x2 x3 x4 H),@(Bx ?a (Ai (Bb ?b)) Bj),@(?a x0 x1 x2 x3 x4 x5 x6 x7 x8 ?b),@(?a x0 x1 x2 H),@((?a).getD ?dX []),@(?a x0 x1 H),@(Ao (i:=?a) ?j3 ?b),@(H b=?a1R ?a),@(De (?a3K ?a).length=k),@(?fN*(?cN z l.1 G i a*?cN z l.2 L i ?a)),@(jM _ _ (?a2B ?a n) (?a2B ?b n) O9m _ x y),@(?a->?a45 ?b),@(β+(?aO+1)*?eZ+C1+?a2S (2*π+4)<=?a),@((∀b o,b≠e->b≠j->?AL)->Q ?a ?S1),@(∀[?v4],?b6->?Z->?dK=?a27 ?a->?dD),@(H ?a=?a27 ((hs.map (Fk c)).map ?X)),@(Ba ?cG (?a29 (Ba ?cG ?K ?a ?aG)) ?b ?aG),@(ChL xs ?bS ?a),@(By (p0) (p1) (p2) ?a),@(?a1V 1+sg 2*Ry (?a3K c.toNat) ?a),@(λi ys τ G=>By ?u4 ?MC ?a (?a3Z ?b)),@(β2+(?aO+1)*?j2+C2+?a2S ?f7<=?a),@(∀σ H,?a->?C),@(λ ?bE ?a3 ?S ?cW=>C9 ?rW ?aP ?l7 ?a ?b),@(ms.length+?a),@(?r8 (cF lf) ?a),@((det k ?a).natAbs=(det k ?b).natAbs),@(?a (K:=K) ?q T.n_zip (?a28 ?b ?bP)),@(∀[?aJ][?R],?iT->B4 ?a vs ps),@((?a).getD ?b 0),@(wF (Au ?a) ?b),@(H p=?a2U ?a ?b),@(Ea λx0=>Ev ?eR ?a ?b),@(?E8 n p ?a x y ?b u v),@(#[h.1,λi v ps e1 e2=>let ?a:=?NJ;?b]),@(Ap (i:=?a) ?b),@(Az (D8 (K:=K)) ?zJ Bt (?a28 ?l ?a)),@(Ba ?cG ?a Ak ?aG),@(?c ?a ?aF),@(Az (Ax (K:=K)) T.n_len qg2 ?a),@(A0->A1->A2->A3->?a6Y A4 ?a),@(?c ?a m),@(Ai (Bb ?a)),@(Cg (L1 (K:=K)) ?q ?YO Ig (Aa ?a Ad))])
def lE{w n:Nat}{f g:?t}{h:?t}(h1:∀c,c<w->h c=f c)(h2:∀a,a<n->h ?f4=g a):VI w f++VI n g=VI ?P h:=by
 refine qp9;intro j;by_cases e1:j<w
 . rw[qc9 (by rw[Bu];exact e1),Co e1,?DV,h1 j e1]
 . rw[qd1 ?f6,Bu];by_cases e2:j<w+n
   . rw[?DV,Co e2,←h2 (j-w) ?g,show w+(j-w)=j by omega]
   . ext a0O
def XW{w n:Nat}[?bW]:Kb (VI ?P f) ?s3 ?A=VI n ?PP:=by
 ext ZS;have s1:?kA ?P 0 ?s3=w:=?XD
 unfold Kb;rw[Bu,s1,←e,List.drop_append_of_le_length ?f6,List.drop_of_length_le ?f6,qo9];refine qj5;rw[Bu];simp only[HT.sIx];omega
def A85{w n:Nat}[?bW]:Kb (VI ?P f) ?A ?s3=VI w f:=by
 ext ZS;have s1:?kA ?P ?P ?s3=w:=?XD
 have s2:?kA ?P 0 ?A=0:=rfl;unfold Kb;rw[Bu,s1,s2,List.drop_zero,qx8,←e,qq5 ?f6,qj5 ?f6]
section
variable[?i][?bU]
abbrev Xv[?i][?bU]:Sp:=λvs H Q _=>xZ λ ?eS (L r b:Addr) (sv:?kD) (N:?lA) ?jE (T P PB:Lat.Mat) (J:Nat->(?r)->?qT)=>V5 (vs=[v,?e w,?f L]) (?a2H w T) (LX H CL L r b sv n n ?BL N) (n<=60) (w<=60) (iP n ?P J) ((∀t,J 0 t (?BZ w T P,PB))) ((∀i t s,J i t s->?pG)) (∀(tp D L' r' b':Addr) (as:?AD) (t:?r) (s:?aM) (H':Hp),?Z->J n t s->SqT K H' tp [?lJ,?f L']->TA H' D as n w s.1->LX H' CL L' r' b' ?A n n (λx a=>s.1 x ?f4,s.2) N->?b6->?a5U L'->?a5U r'->?a5U b'->?G9)
abbrev Uv:Sp:=λvs H Q _=>Tb λ(c:Addr) (W st:Nat) (u:?t)=>C9 (vs=[?f2]) (?a37 c (VI W u)) (Ja W u st) (W<=1000) (Q (?e (st:Int)) H)
abbrev Lb[?b0][?bU]:Sp:=λvs H Q _=>LG λ ?dF ?o7 ?tZ ?pE ?nR (cnt:Nat) ?qW (i f:Nat)=>fQ (vs=[?aW,?bI,?e f]) (?a2G cnt) (i<n) (f<=cnt) ((i<f\/cnt<=i)) (Hds W t f cnt s.1) (dH n W t i f cnt s) (∀H',?a3Q cnt (Lat.shrS t i f s (cnt-f))->?b7)
abbrev Zr[?b0][?bU]:Sp:=λvs H Q _=>Ex9 λ ?dF ?o7 ?tZ ?pE ?nR ?E6 ?qW=>By ?uN (?a2G ?H) (LH n W t i s) (∀H',?a3Q ?H (Lat.downS t i s ?H)->?b7)
abbrev GB[?b0][?bU]:Sp:=λvs H Q _=>LG λ ?dF ?o7 ?tZ ?pE ?nR (?p i:Nat) ?qW (Nx:?qT)=>Hz (vs=[?aW,?e ?p,?bI]) (?a2G i) (spot<i) (i<n) (UI n W t ?p i s Nx) (∀H' s',?a3Q i s'->Nx s'->?b7)
abbrev Zs[?b0][?bU]:Sp:=λvs H Q _=>QC λ ?dF ?o7 ?tZ ?pE ?nR ?E6 ?qW (I:Nat->?qT)=>Hz (vs=[?aW,?bI]) (?a2G i) (i<n) (Al7 n W i t s I) ((∀j,j<i->t j<W)) (∀H' spot st s',?lG->?KZ->?US->(spot<i->st<t ?p)->SX CS H0 H' p q M n W (Lat.insT t ?p st) ?H (Lat.insS i ?p st s')->?b7)
abbrev gC[?b0][?bU]:Sp:=λvs H Q _=>Tb λ ?WZ (r b:V)=>Ev (vs=[?aW,r,b]) (?a7I CS []) (∀q H' fs,?a5U q->fs=putF ?G7 (?f q) (putF ?kI b (putF ?mK r []))->?wD->H' q=?a27 []->H' p=?a2U CS fs->?b7)
universe e9
universe Hb
namespace L2
open PySem PySem.Spec PyProof.Rows PySem.SeqAt
def i8(a b:Addr)(ms ns:?qO):Meets (Builtin.«dict.__ne__» ?LK) (λA R s=>?XP/\?RU/\R (.ok (.ret (?oB ?DC))) s) :=
 Meets.of_wp λprog w A R s hs=>by
  let#[ha,hb,h]:=hs
  show ?bJ ?qV A.in1 (do
   let (self,other) ←Builtin.Dict.dictSlotArgs ?CK ?LK
   if !(←isInstance other (.type ?C4)) then rule s!"dict.{?CK}.not-a-dict";return ←ret .notImplemented
   ret (?oB ((←Builtin.Dict.samePairs s!"dict.{?CK}" (←?XE self) (←?XE other))==false))) _ _ s
  unfold Builtin.Dict.dictSlotArgs;apply qa6 (qa6 (qw5 ?PT ?_));apply qa6 (?sO);apply ?sO;apply qa6 (qv7 (T:=?C4) (b:=true) ?WK isSubtype_dict_dict ?_);rw[?j ?bA];apply qa6 (qb9 (qa6 (qb9 (qa6 (Uz ha hb ?_)))));have e:∀b:Bool,(b==false)=!b:=?bX
  rw[e];exact qb9 #[_,rfl,h]
def RcNeAt.dicts{A:Around}{s:Shared}{a b:Addr}{ms ns:?qO}(ha:?XP)(hb:?RU)(hu:A.units<cLine) :
 RcNeAt A s (?N) (?c0) ?DC:=λprog w E Q h =>
 richCompare_meets_room (op:=.NotEq) ?PT ?WK PySem.F.slot_dict_ne PySem.F.entry_dict_ne (PySem.F.args_dict_ne_2 _ _) (i8 a b ms ns)
  #[ha,hb,show Value.bool ?DC≠Value.notImplemented/\_ from#[(λx=>nomatch x),h]] hu
inductive zN(x:V)(y:V)(H:Hp)(Q:VK):Prop
 | mk:∀a b ms ns,(x=?N)->(y=?c0)->(?kE)->(?a4V H)->(Q (?PO) H)->?QT
abbrev Bk7:R2:=λx y H Q=>?QT
inductive DM where
 | d (d:D) | c (ms:?qO)
abbrev A88[?i](H:Hp)(v:V):?GI
 | .d d=>?KX/\dep d<=6
 | .c ms=>∃a,v=?N/\?kE
abbrev Av2:DM->?GI
 | .d d,.d e=>?OH
 | .c ms,.c ns=>?CU
 | _,_=>False
abbrev zI[?i](H:Hp)(vs ws:?v):Prop:=vs.length=ws.length/\∀(i:Nat) (v w:V),?fV->ws[i]?=?d w->∃a b,A88 K H v a/\A88 K H w b/\Av2 a b
section
variable{X:Cx}{n:Nat}[?Q]
def RO(hu:X.A.units+n<cLine):P9 X (?TB .NotEq) Bk7:=by
 intro Ae s σ H x y v u Q I rx ry h;let#[a,b,ms,ns,rfl,rfl,ha,hb,q]:=h;cases rx;cases ry;exact RcNeAt.dicts (?uH ha) (?uH hb) O9m ?sR X.w X.xe _ #[?PO,H,I,rfl,q]
def Af3[?nC]{vs ws:?v}{its its':?lM}[?FV][?FQ](rv:Vals vs its)(cB:Vals ws its')(L:zI X.K H vs ws) :
 ∀(j:Nat) (h1:j<its.toArray.size) (h2:j<its'.toArray.size),EqAt X.A.in1 s ?ZB ?YG true:=by
 intro j h1 h2;have HS:j<its.length:=?Y
 have h2':j<its'.length:=?g8
 have l1:=rv.length;have l2:=cB.length;have ea:vs[j]?=?a3J vs j:=?B1
 have eb:ws[j]?=?a3J ws j:=?B1
 let#[u,eu,ru]:=?BK ea;let#[u',eu',ru']:=cB.get eb
 have f1:?ZB=u:=by
  have:its[j]?=?d its[j]:=?gS
  rw[eu]at this;have:=?NK;ext cT
 have f2:?YG=u':=by
  have:its'[j]?=?d its'[j]:=?gS
  rw[eu']at this;have:=?NK;ext cT
 rw[f1,f2];let#[a,b,ra,rb,hs]:=L.2 j _ _ ea eb;cases a with
 | d d =>
   cases b with
   | d e =>
     have hd:=ra.2;have:=(KJ I d X.A.in1 _ _ u u' e (by show ?LB+dep d<cLine;omega) ra.1 rb.1 ru ru').2;rw[show ?OH from hs]at this;exact this
   | c ns=>exact hs.elim
 | c ms =>
   cases b with
   | d e=>exact hs.elim
   | c ns =>
     let#[p,e1,hp]:=ra;let#[p',e2,xC]:=rb;rw[e1]at ru;rw[e2]at ru';cases ru;cases ru';by_cases hab:p=p'
     . rw[hab];exact EqAt.same _
     . have r:=RcAt.dicts (A:=X.A.in1) (?uH hp) (?uH xC) (by show ?LB<cLine;omega);rw[show(?a2Z ?d)=true from hs]at r;exact EqAt.of_refs hab r
def pU(hc:?T0):?a2A X.K:=by
 intro Ae s σ H xs us Q I r h;let#[p,bs,rfl,hq,q]:=h;let#[u,rfl,ru]:=Ul r;cases ru;let ?IA:=?VO;have hh:X.A.handled=none:=?KN
 have rel:∀(i:Nat) (v:Value),its.toArray[i]?=?gI->∃b,?t9=?oO/\v=?tI:=λi v e=>by
  have e':its[i]?=?gI:=?rG
  have hlt:i<its.length:=(?aR e').1;have l1:=rv.length;rw[qa4]at l1;have hb:?t9=?a3J bs i:=?B1
  let ?UX:=?BK (i:=i) (x:=V.bl (bs[i]' ?d4)) (by rw[qb0,hb];rfl);rw[e']at hu;cases hu;exact#[_,hb,ru]
 apply call_any_walk (qr1 pl.isList ?_);apply#[?cE,[s.heap.objs.size,p],[s.heap.objs.size],?zU,_,_,?PC,rfl,Walks.list (show X.A.in1.handled=none from hh) ?cE p ?_ ?n2,#[#[_,?B2,rfl,rfl],?_],?_,λh' tk k=>?_]
 . let#[o,_,ho,_]:=pl;exact qe2 (qc3 ho)
 . exact pl.isList.at λo e=>qa7 _ e
 . intro i v s' Q' E' hv hQ;let#[b,hb,rfl]:=rel i v hv;dsimp only at hQ;rw[hb]at hQ;exact qk2 hQ
 . have e:(?cZ ?zU).any (?PC)=?A9:=by
    have l1:=rv.length;rw[qa4]at l1;rw[qc5,←l1];rw[qm8,qq7,qq7];constructor
    . rintro ⟨i,hi,hx⟩;have hlt:=?iV;have hb:?t9=?d bs[i]:=?gS
      rw[hb]at hx;exact#[_,qe4 hlt,hx]
    . rintro ⟨b,hb,hx⟩;let ?o0:=qf1 hb;apply#[i,?n6 ?yZ,?_];rw[hi];exact hx
   rw[e];have I1:Bn X Ae σ H { s with heap:=h',toks:=tk }:=I.kept (λb o e=>k b o (by simp;exact qe2 (qc3 e)) (qa7 _ e));exact#[?LO,H,I1,rfl,q]
def DB:?GG "any"=?d (?q1 "any"):=?z
def m9(hc:?T0)[?FX]:?a2A K:=by subst hK;exact pU hc
universe e9
universe L2
namespace Hb
open PySem L2
abbrev ZW:?B:=["straighten","step","put_in_order","share"]
section
variable[?Q]{H H':Hp}
def v6{nm a:Addr}(h:a≠nm):?SV=H a:=Vc h
def OS{nm a:Addr}(h:a=nm):?SV=none:=v5 h
def YG[?FB][?jL](h:?KW)[?EZ]:SqL K H' a xs:=by
 ext uV
 . ext a09
 . ext a05
 . exact ?g9
def LP[?FB][?jL](h:?rB)[?EZ]:SqT K H' a xs:=by
 ext uV
 . ext a09
 . ext a05
 . exact ?g9
def Av0{nm:Addr}{ys:?v}{o:HO}[?jL](h:?rB)(hn:H nm=?m0):SqT K (?a3G nm o) a xs:=by
 rcases h with(h|⟨u,h⟩) | h
 . exact ?a60 ?W5
 . exact ?a5K u ?W5
 . exact ?g9
def qU{m i:Nat}[?bW]{x:Int}(hi:i<m):(VI m f).set i (?e x)=(Ii m λk=>if k=i then x else f k).map ?X:=by
 show _=VI m _;refine qp9;intro j;rw[qp8,Bu];by_cases hj:i=j
 . subst hj;rw[?L,?i5,Co hi,?L]
 . rw[?j hj];by_cases h2:j<m
   . rw[Co h2,Co h2,?j (?a5F hj)]
   . ext a0O
def Bw6[?FB]{v:V}{n w:Nat}[?v3](h:?a2H w f)[?EZ]:Rep K H' v (dT n w f):=by
 let#[a,us,rfl,hq,hl,hr]:=Iz h;apply iF (YG hq hp sx) hl ?hR;have e:=qa0 (l:=us) (i:=i) O9m;let ?D6:=hr i _ e;exact#[b,?YH,YG hb hp sx]
universe e9
def LX.x[?a0D]{N:?lA}{q D dx:Addr}{fs:?a58 Str}(x:?PK)(hq:H q=?a2U D fs)(hqp:q≠p)(sx:SameX q H H')(kp:Kp H H'):?a4W H' N:=by
 ext a03;exact#[#[dx,fs,sx _ _ hqp.symm h1,h2],#[as,a1.x hq sx,a2],#[bs,b1.x hq sx,b2],?gA,x.nr,x.nb,λa ha=>kp a (x.nn a ha)]
def LX.more[?a0D]{N N':?lA}(x:?PK)(e:?Z)(h:∀a,N' a->N a\/?Y7)(hn:∀a,N' a->H' a≠none):?a4W H' N':=by
 ext a03;apply#[#[dx,fs,e _ _ h1,h2],#[as,a1.same e,λa ha=>#[(?BP).1,(?BP).2.1,?fU]],#[bs,b1.same e,λa ha=>#[(?E2).1,(?E2).2.1,?fU]],?gA,?fU,?fU,hn]
 . exact ?IM ?pK (a1.there.2 a ha)
 . exact ?IM ?J4 (b1.there.2 a ha)
 . exact(h r z).elim x.nr a1.there.1
 . exact(h b z).elim x.nb b1.there.1
structure WX[?i](CL CW:Addr)(H0 H:Hp)(p L R nm:Addr)[?eF](M:?qP)[?FO](ns:?y):Prop where
 ob:Nl λtv dx fs=>?a7I CW fs/\fQ (?a5Z ?gU=?d tv) (?a5Z ?pN=?d (?DJ)) (?a5Z ?EG=?a3V L) (?a5Z ?vP=?a3V R) (?a5Z ?O3=?a3V nm) ((∀m∈ZW,?iA m=none)) (fs.length<=10) (∀M',M=?d M'->Rep K (Vd H ?ML) tv (dT n w M'))
 li:Tb λr1 b1 r2 b2=>?KY/\?VI/\By (?a4G r1) (?a4G b1) (?a4G r2) (?a4G b2)
 nu:H nm=?a27 ?rZ
 same:?AU
 fr:?vZ/\?a4G L/\?a4G R/\?a4G nm
 ne:p≠L/\p≠R/\L≠R
 sm:n<=60/\w<=60
abbrev QE(m:Nat)(M:Lat.Mat):?y:=((?cZ m).map λi=>?oF).filter λx=>?k (x≠0)
def WX.keep[?Q][?nK]{H0 H H':Hp}[?EU][?uS][?h0]:?a20 H' M:=by
 ext ZU;exact#[#[tv,dx,fs,?MO,l1,l2,l3,l4,l5,l6,l7,λM' e=>?jC (QW s) (hrep M' e)],#[r1,b1,r2,b2,lx.keep s,?KV,f],?HQ,x.same.trans s,x.fr,?gA,x.sm]
def WX.num[?Q][?nK]{H0 H:Hp}[?EU]{ns ns':?y}(x:?M1):WX K CL CW H0 (?a3G nm (?s (ns'.map ?X))) p L R nm n w M l r ns':=by
 ext ZU;have hpn:p≠nm:=Fo hp ?iM ?fP
 have go:∀{q r b:Addr}{m:Nat}{s:?aM}{N:?lA},LX H CL q r b ?A m m s N->N nm->LX (?a3G nm (?s (ns'.map ?X))) CL q r b ?A m m s N:=λ{q r b m s N} y hN=>by
  let#[d2,f2,e1,e2]:=y.ob;let ?BQ:=y.rw;let ?QR:=y.bk;apply#[#[d2,f2,by rw[Al (Fo e1 ?iM ?fP)];exact e1,e2],#[as,a1.put (λz=>y.nr ?qK) λa ha z=>?pK ?qK,a2],#[bs,b1.put (λz=>y.nb ?qK) λa ha z=>?J4 ?qK,b2],y.ne,y.nr,y.nb,λa ha z=>?_];by_cases e:a=nm
  . rw[e,Ab]at z;cases z
  . rw[Al e]at z;exact y.nn a ha z
 apply#[#[tv,dx,fs,by rw[Al hpn];exact hp,l1,l2,l3,l4,l5,l6,l7,λM' e=>?jC (CK λa o n e=>by rw[Al n];exact e) (hrep M' e)],#[r1,b1,r2,b2,go lx (?h rfl),go ly rfl,f],Ab,λa o e=>by rw[Al (Aq e x.fr.2.2.2)];exact ?PW,x.fr,?gA,x.sm]
def WX.drop[?Q][?nK]{H0 H:Hp}[?EU][?uS]:?a20 H ?A:=by
 ext EY;exact#[(?a2L ?wW),x.li,?iM,x.same,x.fr,?gA,x.sm]
def WX.left[?Q][?nK]{H0 H H1 H':Hp}{p L R nm r1 b1 r2 b2 r' b':Addr}{n w:Nat}{M:?qP}{l r l':?aM}[?uS](lx:?KY)(ly:?VI)[?a13]
 (s:?vF) (sx:SameX L H1 H') (h1:?a3T H1 r') (h2:?a3T H1 b') (y:LX H' CL L r' b' ?f3 n n l' ?r0):WX K CL CW H0 H' p L R nm n w ?f3 l' r ns/\?a38 H' r:=by
 ext EY;let#[dl,fl,hL,_]:=lx.ob;let#[dl',fl',hL',_]:=y.ob;let#[n1,n2,n3]:=x.ne;have kp:Kp H1 H':=Kp.x sx hL';have lz:=(?KV).x (s _ _ hL) n3 sx kp;have s0:=x.same.trans s;exact#[#[#[tv,dx,fs,sx _ _ n1 (?MO),l1,l2,l3,l4,l5,l6,l7,?wW],#[r',b',r2,b2,y,lz,s0.free h1,s0.free h2,f3,f4],sx _ _ (Fo ?iM hL ?fP) (?HQ),sx.same s0 x.fr.2.1,x.fr,?gA,x.sm],lz]
def WX.right[?Q][?nK]{H0 H H':Hp}{p L R nm r1 b1 r2 b2:Addr}{n w:Nat}{M:?qP}{l r r':?aM}[?uS](lx:?a3R H ?f3)(ly:?a38 H r)(f1:?a3T H0 r1)(f2:?a3T H0 b1)[?a13]
 (fr:Xp r2 b2 H H') (kp:Kp H H') (y:?a38 H' r'):WX K CL CW H0 H' p L R nm n w ?f3 l r' ns/\?XJ:=by
 ext EY;let#[dl,fl,hL,hL2]:=lx.ob;let ?BQ:=lx.rw;let#[bs,b3,b4]:=lx.bk;let#[lC,c1,_]:=ly.rw;let#[bs2,c2,_]:=ly.bk;have no:∀a C d f,H a=?d (?d8 C d f)->H' a=?d (?d8 C d f):=λa C d f e=>fr _ _ (Fo e c1.2.1 ?fP) (Fo e c2.2.1 ?fP) e
 have lz:?XJ:=#[#[dl,fl,no _ _ _ _ hL,hL2],#[as,a1.keep (λo e=>?a26 lx.nr lx.nr) λa ha o e=>?a26 ?pK ?pK,a2],
  #[bs,b3.keep (λo e=>?a26 lx.nb lx.nb) λa ha o e=>?a26 ?TY ?TY,b4],lx.ne,lx.nr,lx.nb,λa ha=>kp a (lx.nn a ha)]
 exact#[#[#[tv,dx,fs,no _ _ _ _ hp,l1,l2,l3,l4,l5,l6,l7,?wW],#[r1,b1,r2,b2,lz,y,f1,f2,f3,f4],fr _ _ (?a5F ly.nr) (?a5F ly.nb) ?iM,λa o e=>fr _ _ (Aq e f3) (Aq e f4) (?PW),x.fr,?gA,x.sm],lz]
def Q2(i:Nat)(M:Lat.Mat):QE ?H M=if ?oF=0 then ?xP else ?xP++[?oF]:=by
 unfold QE;rw[qk9,qb4,qp2];by_cases h:?oF=0<;>simp[h]
def wM(i:Nat)(M:Lat.Mat):?a2K ?xP i:=by
 unfold QE;apply qa5 (qi0 _ _) ?_;rw[qa4,qp7];ext eD
structure Uh[?eF](M:Lat.Mat)[?FO](Nx:?DU):Prop where
 ex:∃J1,iP n ?P J1/\(∀t,J1 0 t (?BZ w M l.1,l.2))/\(∀i t s,J1 i t s->?pG)/\∀t1 s1,J1 n t1 s1 →
  ∃J2,iP w (n+w) J2/\(∀t,J2 0 t (?BZ n (λi j=>s1.1 j i) r.1,r.2))/\(∀i t s,J2 i t s->∀j,j<i->t j<n+w)/\∀t2 s2,J2 w t2 s2 →
    Nx (λi j=>s2.1 j i) (λx a=>s1.1 x ?f4,s1.2) (λx a=>s2.1 x (n+a),s2.2)
section
variable[?i][?bU]
abbrev P1:Sp:=λvs H Q _=>Tb λ ?eS ?jE ?pP=>Hz ?rS (?a2H w M) (n<=1000) (w<=1000) ((?l4->?VJ)) ((¬?l4->?a33 (.bl ?qB)))
abbrev gD[?i][?bU]:Sp:=λvs H Q _=>zR λ ?dF ?WZ ?eS ?jE ?pP=>fQ (vs=[?aW,v,?DJ]) (?AU) (?vZ) (?a7I CW []) (Rep K H0 v (dT n w M)) (n<=60) (w<=60) (∀L R nm H',WX K CL CW H0 H' p L R nm n w ?yT ?iX ?iX []->?b7)
abbrev GC[?i][?bU]:Sp:=λvs H Q _=>xZ λ ?dF ?u5 ?jE ?pP ?kL ?I2 (Nx:?DU)=>By ?uN (?a20 H ?yT) (?a5C Nx) (∀L' R' M' l' r' H',Nx M' l' r'->WX K CL CW H0 H' p L' R' nm n w (?d M') l' r' ns->?b7)
abbrev Qg[?i][?bU]:Sp:=λvs H Q _=>LG λ ?dF ?u5 ?jE ?pP ?kL (U:?T5)=>C9 ?uN (WX K CL CW H0 H p L R nm n w ?yT l r []) (?a5C (λM' l' r'=>∃m,?DZ)) ((∀m M' l' r',?DZ->¬?RQ->Uh n w M' l' r' (λM2 l2 r2=>∃m',m'<m/\U m' M2 l2 r2))) (∀L' R' m M' l' r' H',?DZ->?RQ->WX K CL CW H0 H' p L' R' nm n w (?d M') l' r' (QE ?kO M')->?b7)
structure FO[?eF][?fJ][?gY]:Prop where
 p1:0<f i/\(f i).natAbs<L9
 p2:f j≠0/\(f j).natAbs<L9
 bl:BO n n l/\BO n n (?AT i j 1 l)
 br:BO w w r
abbrev shF[?fJ](g:Int)[?bV]:?t:=Lat.put2 f i j g (?y8*f j)
abbrev shL[?fJ](g b:Int)[?bV](l:?aM):?aM:=?AT j i (-(b*f j / g)) (?AT i j 1 l)
abbrev vN[?fJ](g a b:Int)[?bV](r:?aM):?aM:=Lat.blendS i j a b (-(f j / g)) (?y8) r
abbrev BY[?i][?bU]:Sp:=λvs H Q _=>Am8 λ ?dF ?u5 (n w m i j:Nat) ?kL ?yM=>V5 (vs=[?aW,?e ?cJ,?e ?c5]) (?a3M l) (i<j) (j<m) (m<=n) (m<=w) (?wL) ((?yK->Q ?dQ H)) (∀g a b H',?AS->WX K CL CW H0 H' p L R nm n w ?A (shL i j g b f l) (?a48 b) (Ii m (shF i j g f))->?b7)
abbrev bZ[?i][?bU]:Sp:=λvs H Q _=>xZ λ ?dF ?u5 (n w m:Nat) ?kL ?yM (V:?qS)=>Nm ?uN (?a3M l) (m<=n) (m<=w) (V 0 f l r) ((∀d i j f l r,V d f l r->d<5*m+m*m->i<j->j<m->?wL/\(?yK->V ?eQ f l r)/\∀g a b,?AS->V ?eQ (shF i j g f) (shL i j g b f l) (?a48 b))) (∀d f' l' r' H',V d f' l' r'->?vO m m f'->WX K CL CW H0 H' p L R nm n w ?A l' r' (Ii m f')->?b7)
universe e9
structure aO[?eF](A:Lat.Mat)(Fin:?qS):Prop where
 ex:∃(U:?T5) (Y:Nat->?qS),Uh n w A ?iX ?iX (λM l r=>∃m,?yQ) ∧
  (∀m M l r,?yQ->¬?l4->?a5C (λM' l' r'=>∃m',m'<m/\U m' M' l' r')) ∧
  (∀m M l r,?yQ->?l4->∃k f,QE ?kO M=Ii k f/\k<=n/\k<=w/\Y k 0 f l r) ∧
  (∀k d i j f l r,?NO->d<?w4->i<j->j<k->?wL/\(?yK->Y k ?eQ f l r)/\∀g a b,?AS->Y k ?eQ (shF i j g f) (shL i j g b f l) (?a48 b)) ∧
  ∀k d f l r,?NO->?O1
structure AN[?i](H H':Hp)[?FP](n w k:Nat)[?gY]:Prop where
 same:?Z
 tup:SqT K H' tp ?WU
 num:H' nm=?a27 (VI k f)
 left:?a66 H'
 lback:?a42 H'
 right:?a41 H'
 rback:?a67 H'
 new:∀a,?TP->?Y7/\∃us,H' a=?cV/\us.length<=60
section
variable[?i]
abbrev Uw:Sp:=λvs H Q _=>Ye λ ?eS ?jE (A:Lat.Mat) (Fin:?qS)=>Hz (vs=[v,?DJ]) (?a2H w A) (n<=40) (w<=60) (aO n w A Fin) (∀[?FP] (k:Nat) [?bV] [?FO] (H':Hp),?O1->?vO k k f->k<=n->k<=w->?GR->?G9)
universe e9
universe Hb
namespace Hb
open Lat
section
variable{C:?xV}{δ:Nat}
def BB.bo{n W β:Nat}{s:?c4}(h:?a6F β s)(hb:β<=big):BO n W s:=#[(?LR).1,(?LR).2.1]
def FW{n W w i:Nat}{G:?xV}{R0 B0:Mat}[?nM]{π b β:Nat}(H:Kr n W w i G R0 B0 t π b)(hW:W=w+n)(dl:F6 n w R0 B0)(bb:?a6F β (R0,B0))(hb:?zT)(hπ:?lW)(hpg:∀j,j<i->G ?eN)
 (hG:∀spot (s:?c4) st,?lG->?MU->Ja W (s.1 i) st->G st)
 (hd:∀t1 Y R1 B1 R2 B2,XY n W w i G R0 B0 t1 Y R1 B1->P6 n W w i R1 B1 t1 0 R2 B2->∀j,j<=i->(R2 j (t1 j)).natAbs<L9) :
 ∃I,Al7 n W i t (R0,B0) I/\∀spot st s',?lG->?KZ->?US->(spot<i->st<t ?p) →
   LH n W ?oA i (?iZ)/\G st/\XY n W w i G R0 B0 ?oA (b+i+3+2*π+i*(?gJ)) (?iZ).1 (?iZ).2 ∧
   P6 n W w i (?iZ).1 (?iZ).2 ?oA 0 (?w5).1 (?w5).2 ∧
   ?a6F (β+?q3) (?w5):=by
 have hi:=H.hi
 have zG:∀spot,?lG->?vN<=?q3:=λspot hs=>by
  unfold Gq;exact qa5 (qc0 _ hs) ?mE
 apply#[λspot s=>?MU/\?a6F (β+?vN) s,#[#[D6.start H,by rw[Nat.zero_mul];exact bb],?_,?_,?_],?_]
 . rintro spot s _ ⟨p,_⟩;let ?SM:=(p.good.dual dl).row hi;exact#[w+c,O9m,h0]
 . rintro spot s hs ⟨p,q⟩ hz;apply#[p.skip hz,q.mono ?_];rw[qf7];omega
 . rintro spot s hs ⟨p,q⟩ hz h0;have mH:=zG ?mP hs;rw[qf7,qf5]at mH;have en:β+?mP*?DA=β+?vN+?DA:=by rw[qf7,qf5];omega
   have lA:(s.1 ?p (t ?p)).natAbs<=?bQ:=by rw[p.old ?p _ ?u hs];exact H.hd ?p hs
   have lB:=p.pv ?p ?u hs;apply#[?dY q O9m,λj hj1 hj2=>#[H.lt j hj2,p.pos j hj2,YS (π:=π) ?_ O9m],#[h0,YS lB O9m],?rE,λg a b' sh=>?_]
   . rw[p.old j _ hj1 hj2];exact H.hd j hj2
   . let#[m1,m2,m3]:=p.meetAdd H hs hz hk q;apply#[?SN,m1,?_];rw[en];exact m3 _ O9m
   . let#[m1,m2,m3,m4]:=p.meetBlend H hs hz (?NG (p.pos ?p hs) lA lB) q;apply#[?SN,λd hd=>?dY (m4 d O9m) O9m,m1,?_];rw[en];exact m4 _ O9m
 . rintro spot st s' hs ⟨p,q⟩ hB hex;have hGs:=hG ?p s' st hs p hB;let ?L5:=vU H p hs hB.1 hB.2.1 hB.2.2 hGs hpg hex q;apply#[λd hd'=>#[λj hj1 hj2=>?_,λm hm=>?dY (e5 d hd' m O9m) hb],hGs,e1,e2,e4 _ ?u];let#[dn,_,_]:=z6 e1 hi (e3.mono (qw1 (zG i ?u) β)) d O9m;have hh:=hd _ _ _ _ _ _ e1 e2 j O9m;rw[e2.hd j ?g]at hh;have hx:=dn.hd j O9m;apply#[e1.lt j O9m,(dn.s0).pos j O9m,?_];rw[hx];exact hh
universe e9
noncomputable abbrev JF[?eF](M:Mat):?SX:=λi t s=>Ee n ?P w i ?m6 M one t s.1 s.2
def X2{n w b0 D π b β:Nat}{M:Mat}(hM:∀r c,r<n->?fT->(M r c).natAbs<=2 ^ b0)(dets:P7 n ?m6 M D)(h1:?x2)(h2:?P8)(h3:?BI)(h4:b0<=b)(hβ:b<β)(hβ2:?xI)(hbig:?TX)(hπ:?lW)(dl:F6 n w M one) :
 iP n ?P (JF n w M):=by
 apply#[λi t s hi hJ=>?_];have iD:i*D<=?bR:=qa5 (qc0 _ (qe5 hi)) h2;have H:=pB hM ?d6 hJ hi h1 iD h3 h4;have bb:BB n ?P ?qY 0 β (s.1,s.2):=Ua hM ?d6 (λk a=>rfl) hJ (qe5 hi) iD h4 hβ hβ2
 let#[I,P,e]:=FW H rfl (hJ.good.dual dl) bb (hbig i hi) hπ hJ.pg (λ_ _ _ _ _ hB=>hB.2.2) λt1 Y R1 B1 R2 B2 I1 D1 j hj=>by
  have:=?a44 hJ.next (show i+1<=n from hi);exact YS (qa5 ?a0 h1) O9m
 apply#[I,P,?JM];let#[e1,_,e3,e4,_]:=e ?p st s' hs hI hB hex;exact#[e1,hJ.next e3 e4]
def JF.lt{n w:Nat}{M:Mat}:∀i t s,JF n w M i t s->?pG:=λ_ _ _ h j hj=>h.st.lt j hj
abbrev JL(n w r:Nat)(M B0:Mat)(kt:?r)(hd:?t)(π b η β:Nat):?SX:=λi t s =>
 (i<=r/\?a2O i (λc=>c<w)/\?VF) ∨
 (r<=i/\?a2O i ?m6/\?VR)
def JL.lt{n w r:Nat}{M B0:Mat}[?uY]{π b η β:Nat}:∀i t s,?a4M i->?pG:=λ_ _ _ h j hj=>by
 rcases h with⟨_,h,_⟩|⟨_,h,_⟩<;>exact h.st.st.lt j hj
def Xy{n w r E π b η β:Nat}{e:Int}{T P PB:Mat}[?uY][?FW](he0:0<e)[?F3][?a1J](hη:∀j,?f1->j<n->hd j<=?C2)
 (hβ:η+1<=β) (hbig:β+?p8<=big) (hE:E<=?bQ) [?FS] (hb:n*E<=?bR) (hπb:π<=b) (hπ:?lW) (hη9:η<=8990) :
 iP n ?P (JL n w r ?fL PB kt hd π b η β):=by
 have rn:=g.sq.rn;have dets:=Yb (P:=P) g.dets;have Ai2:∀{i:Nat}[?nM]{s:?c4},i<=r->?L1->?P3:=λhi h j hj=>YS (qa5 (h.st.headD ?d6 hi hj) hE) O9m
 have hηN:∀j,?f1->j<n->?fZ<=?C2:=λj h1 h2=>by
  have p:=?xY;have q:=?a3Y hη;have:(?fZ:Int)<=((?C2:Nat):Int):=by rw[Int.natAbs_of_nonneg ?g];exact_mod_cast q
  exact_mod_cast this
 apply#[λi t s hi hJ=>?_];by_cases hir:i<r
 . obtain⟨_,h,bb⟩:i<=r/\?L1/\?VF:=by
    rcases hJ with hJ|⟨h,_⟩
    . exact hJ
    . omega
   have H:=OL g (qh0 w n) h hir hE he (qa5 (qc0 _ (qe5 hi)) hb) hπb;have tm:?RN<=?jY:=NL π b hir;have tm':?RN=?AB+?q3:=rfl;have tn:?jY<=?p8:=qh0 _ _
   have hG:∀spot (s':?c4) st,?lG->D6 n ?P w i (λc=>c<w) s.1 s.2 t π b ?p s'.1 s'.2->Ja ?P ?M9 st->st<w:=λspot s' st hs p hB=>by
    let ?SM:=VH he0 g.sq (λk c _ hc=>?hG hc) hir ((h.st.good.mono (qp6 i)).trans p.good) ?u dl;rcases qh3 c st with z | z
    . exact ?aA (hB.1 c z) h0
    . exact qc1 z hc
   let#[I,Pu,ev]:=FW (C:=?sN) (δ:=?uB) (β:=β+?AB) H rfl (h.st.good.dual dl) bb O9m hπ h.st.pg hG λt1 Y R1 B1 R2 B2 I1 D1 j hj=>by
    have:=?a44 h.st.next (show i+1<=r from hir);exact YS (qa5 ?a0 hE) O9m
   apply#[I,Pu,?JM];let ?L5:=ev ?p st s' hs hI hB hex;exact#[e1,?h #[hir,h.next hir e2 hs e3 e4,by rw[tm',←qr2];exact e5]]
 . have uZ:r<=i:=O9m
   obtain⟨h,ab,bb,h9⟩:?a4A ?m6/\?VR:=by
    rcases hJ with⟨h1,h,bb⟩|⟨_,h⟩
    . have e:i=r:=O9m
      subst e;apply#[h.wide λc hc=>O9m,?_,?_,Ai2 ?u h]
      . rw[qh8,Nat.zero_mul];exact xW bb rn hβ
      . rw[qh8];exact bb
    . exact h
   have hsd:r+?nU=i:=O9m
   have row:∀c,s.1 i c=?YF:=λc=>h.st.good.rest i c ?u;have zero:∀c,c<kt i->s.1 i c=0:=λc hc=>by rw[row];exact ?uI i c uZ hi hc
   have hd0:0<s.1 i (kt i):=by rw[row,?x9 i uZ hi];exact K.pos i uZ hi
   have ktW:=K.lt i uZ hi;have bg:Ja ?P (s.1 i) (kt i):=#[zero,O9m,ktW]
   have em:?MI=?SY+(?OO+(r+?nU)+3):=rfl;have emo:?MI<=?N3:=PD _ _ _ O9m;have tn:?G0:=rfl;rw[hsd]at em;apply#[λ_ s'=>s'=s,#[rfl,?_,λ_ _ _ hs _=>hs,?_],?_]
   . rintro spot _ _ rfl;exact#[kt i,ktW,O9m]
   . rintro spot _ hs rfl hz h0;exact ?aA (h.skip K uZ hi hs ?u) h0
   . rintro spot st s' hs e hB hex;have e:=e.symm;subst e;have est:=hB.one bg;subst est
     have esp:spot=i:=by
      rcases qh3 ?p i with z | z
      . exact ?aA (h.skip K uZ hi z (qe5 (hex z))) hB.2.1
      . omega
     subst esp
     have Bw2:insS ?p ?p ?pJ s=s:=by
      have m1:moveS ?p ?p s=s:=by
       show(moveR s.1 ?p ?p,moveR s.2 ?p ?p)=s;rw[Rz,Rz]
      rw[insS,m1,?aE]
     rw[Bw2];let#[k1,k2,k3]:=h.last K uZ hi (λc hc=>hc) ktW (C:=?sN) (δ:=?uB) bb (λk hk=>ab k ?p hk ?u hi);have hbd:?N4<=big:=O9m
     have st':=k1.st.st
     have hh:∀d,d<=?vW->∀j,?zK->(downS (insT t ?p ?pJ) ?p s d).1 j (?qR)=?DL:=λd hd j hj=>by
      let#[l1,_]:=k2 d hd;have:=l1.rows j (?qR);rw[this];split
      . rename_i z
        have tl:?qR<?yE:=by
         have:=st'.inc j ?p z.2 O9m;have e:insT t ?p ?pJ ?p=?yE:=by unfold insT;rw[?aE,?L]
         omega
        rw[zero _ tl,qd4,qf6]
      . rfl
     have hs9:∀j,?zK->?a5A ?DL L9:=λj hj=>by
      unfold insT;rcases qh3 j ?p with z | z
      . rw[?bM];exact h9 j z
      . have:j=spot:=O9m
        subst this;rw[?aE,?L,row,?x9 j uZ hi];exact YS (hηN j uZ hi) O9m
     have hpos:∀j,?zK->0<?DL:=λj hj=>by
      have:=st'.pos j O9m;rw[hh ?mP ?u j hj]at this;exact this
     apply#[λd hd=>#[λj hj1 hj2=>#[st'.lt j hj2,by rw[?QG];exact hpos j O9m,by rw[?QG];exact ?SR],?X3],?m #[O9m,k1,?_,?_,λj hj=>by rw[hh ?mP ?u j ?g];exact ?SR]]
     . rcases qh3 m d with z | z
       . have:=k3 d O9m m z;rw[this];exact ?dY (k2 d O9m).2 hbd
       . have e:m=d:=O9m
         subst e;exact ?dY (k2 ?t8 O9m).2 hbd
     . have:=h.above K uZ hi hηN ab (?QN).1;rw[?YC,qf7,qf5];have e:?hY+((spot-r)*?g6+?g6)=?a5J η+1:=O9m
       rw[e];exact this
     . rw[?YC,em];have:=(?QN).2;rw[show ?yJ+(?VM+(?a5J spot+3))=?N4 by omega];exact this
def RU{M:Mat}{k:Nat}(hp:∀x,x<k->0<M x x):∀m,k<=m->(∀x,k<=x->x<m->M x x=0)->QE m M=Ii k ?AR:=by
 have base:∀j,j<=k->QE j M=Ii j ?AR:=λj=>by
  induction j with
  | zero=>intro _;rfl
  | succ j ih =>
    intro hj;have:=hp j O9m;rw[Q2,?aE,ih ?g,j4]
 intro m
 induction m with
 | zero=>intro h _;exact ?O 0 ?lF▸(by rw[?a3O k 0])
 | succ m ih =>
   intro h hz;by_cases e:k=m+1
   . subst e;exact ?O _ ?u
   . rw[Q2,?o (hz m ?g ?g),ih ?g λx h1 h2=>hz x h1 ?g]
noncomputable abbrev XQ:Nat:=67000000
abbrev Nj(n:Nat)(s:?c4):Prop:=∀a b,a<n->b<n->pT n s.2 s.1 a b=?E3
def Nj.one(n:Nat):Nj n ?iX:=λa b ha hb=>by
 show ?a3W (λk=>?gV k a*?gV k b)=_;rw[?aS ha λk _ hk=>by unfold Lat.one;rw[?j hk,qf8]];unfold Lat.one;rw[?L,qd8]
def Nj.go{n w:Nat}{T:Mat}{l:?c4}{R B:Mat}(h:?pU)(e:∀a b,pT n B R a b=pT n l.2 (?a4 w T l.1) a b):Nj n (?vU,B):=λa b ha hb=>by
 have:=e a (w+b);rw[←h a b ha hb];apply ?t6 ?a0 ?_;exact Ah λk _=>by rw[beside_hi]
def Ad1[?fJ]:?QB<=1:=by
 unfold one;split<;>decide
def DF{n w W b:Nat}{T P:Mat}(hT:∀i c,i<n->c<w->?mL<=?bR)(hP:∀i c,i<n->c<W->(P i c).natAbs<=?bR):∀i c,i<n->c<w+W->(?YF).natAbs<=?bR:=λi c hi hc=>by
 unfold beside;split
 . rename_i h;exact ?O2
 . exact ?K3
def X8{n w W b:Nat}{T P:Mat}(hT:∀i c,i<n->c<w->?mL<?bR)(hP:?aH n W b P):?aH n (w+W) b ?fL:=λi c hi hc=>by
 unfold beside;split
 . rename_i h;exact ?O2
 . exact ?K3
def X9{n w W b:Nat}{R:Mat}(h:?aH n (w+W) b R):?aH n W b ?vU:=λi c hi hc=>h i (w+c) hi O9m
def Mq{n W b b':Nat}{R:Mat}(h:?aH n W b R)(hb:b<=b'):?aH n W b' R:=λi c hi hc=>qb5 (h i c hi hc) (qe6 ?bA hb)
def Af5{e:Int}{D π:Nat}(h:e<=D)(hD:?x2)(h0:0<e):e.natAbs.log2<=π/\?BG:=by
 have h1:?BG:=by
  have:e.natAbs<=D:=O9m
  exact qa5 ?a0 hD
 apply#[?_,h1];have:e.natAbs.log2<?gJ:=(Nat.log2_lt O9m).mpr (qc1 h1 (?nV));omega
def JL.done{n w r π b η β c:Nat}{M B0:Mat}[?uY][?nM]{s:?c4}(rn:r<=n)(h:?a4M n)(hc:?p8<=c):(∃G,?a2O n G)/\?aH n ?P (β+c) s.1/\?aH n n (β+c) s.2:=by
 have e:?G0:=rfl;rcases h with⟨h0,h,bb⟩|⟨h0,h,_,bb,_⟩
 . have en:n=r:=O9m
   subst en;have:=bb.mono (show β+Ep π b n<=β+c by omega);exact ?VS
 . have:=bb.mono (show _<=β+c by omega);exact ?VS
universe Hb
namespace Lat
open Hb
abbrev F4(f:?r):?r
 | 0=>0
 | n+1=>?BX
def Mg{f g:?r}:∀{n:Nat},(∀k,k<n->f k<=g k)->?p9<=?AK
 | 0,_=>?b4
 | n+1,h=>Nat.add_le_add (Mg λk hk=>h k O9m) (h n O9m)
def Vz[?bV]:∀n:Nat,(?a3W f).natAbs<=F4 (λk=>(f k).natAbs) n
 | 0=>?b4
 | n+1=>qa5 (qf3 (?a3W f) (f n)) (qq8 (Vz f n) _)
def Zk(f:?r)(c:Nat):∀n:Nat,F4 (λk=>f k*c) n=?p9*c
 | 0=>by show 0=0*c;omega
 | n+1=>by show F4 _ n+f n*c=(?BX)*c;rw[Zk f c n,qf7]
def lP{f g:?r}{c:Nat}:∀{n:Nat},c<n->f c=f c->(∀k,k<n->k≠c->f k=g k)->g c=0->?p9=f c+?AK
 | 0,h,_,_,_=>O9m
 | n+1,h,e,hk,h0=>by
   show ?BX=f c+(?AK+g n)
   by_cases z:c=n
   . subst z;have:F4 f c=F4 g c:=qi8 (Mg λk hk'=>ql9 (?JT)) (Mg λk hk'=>ql9 (?JT).symm);omega
   . have:=lP (n:=n) O9m rfl (λk hk'=>hk k O9m) h0;have:=hk n O9m O9m;omega
def BV{i:Nat}{R B:Mat}[?nM](P:Part R t 0 i){a m:Nat}(h:∀j,j<i->(?c (?yV) i).natAbs<=m*?oH):∀j,j<i->(B j a).natAbs<=2 ^ j*m:=by
 intro j
 induction j using Nat.strongRecOn with
 | _ j ih =>
   intro hj;have pj:=P.pos j ?lF hj;have hs:=h j hj;rw[?qJ (j:=j+1) ?g λk h1 h2=>by rw[P.zero k _ ?lF h2 (P.inc j k ?lF ?g h2)];simp]at hs;have hs':(?c (?yV) j+?K6).natAbs<=m*?oH:=hs
   have b:=DT (f:=?yV) (m:=m) (h:=?oH) (j:=j) λk hk=>by
    rw[qb2];let ?qH:=P.red k j ?lF hk hj;exact qf4 (ih k hk O9m) O9m
   have c:(?K6).natAbs<=2 ^ j*m*?oH:=qa5 (Yz hs') (by rw[qy0];exact b);rw[qb2]at c;exact qs3 c O9m
section
variable{n w r E:Nat}{e:Int}{T P PB R RB:Mat}{kt t:?r}{hd:?t}
def SO[?FW]{x:?t}[?jP](hx:∀c,c<w->v c=?GT)(hv:∀c,c<w->(v c).natAbs<=e.natAbs):?I7:=by
 have rn:=g.sq.rn;have rw':=g.sq.rw
 let a:Nat->?r:=λc k=>if ?w1 then ?q6*(T k k).natAbs else 0
 have step:∀c,c<r->F4 (a c) n=a c c+?P6:=λc hc=>lP O9m rfl (λk hk ne=>by
  show(if ?w1 then _ else 0)=if ?u7 then _ else 0
  by_cases z:?w1
  . rw[?bM,?o #[?zL,z.2]]
  . rw[?bN,?aE]) (by show(if c+1<=c/\c<r then _ else 0)=0;ext v0)
 have top:∀c,c<r->a c c<=e.natAbs+?P6:=λc hc=>by
  have h1:=hx c O9m;have h2:=Rq (f:=?qM) (g:=λk=>if k=c then ?lR else ?mT) (n:=n+2) (p:=c) (q:=n+1) O9m O9m O9m
  have e1:?GT=?lR+?SA:=by
   have:∀m,c<m->m<=n->?a7S (?qM)=?lR+?a7S (λk=>?mT):=λm=>by
    induction m with
    | zero=>intro h;omega
    | succ m ih =>
      intro h hm;show ?a7S _+?JN=?lR+(?a7S _+if c+1<=m/\m<r then ?JN else 0)
      by_cases z:c=m
      . subst z;have z1:?c (?qM) c=0:=?bK λk hk=>by rw[g.low k c ?g ?g hk,qd4]
        have z2:?c (λk=>?mT) c=0:=?bK λk hk=>by ext v0
        rw[z1,z2,?aE];omega
      . rw[ih ?g ?g];by_cases y:m<r
        . rw[?o #[?zL,y]];omega
        . rw[?aE,?X6 m c ?g ?g ?g,qd4];omega
   exact ?a0 n O9m ?u
  have e2:(?lR).natAbs<=e.natAbs+(?SA).natAbs:=by
   have:=hv c O9m;rw[h1,e1,Int.add_comm]at this;exact Yz ?a0
  apply qa5 (ql9 ?_) (qa5 e2 (qw1 (qa5 ?TQ ?VP) _))
  . show(if c<=c/\c<r then _ else 0)=_;rw[?o #[?b4,hc],qb2]
  . show(?mT).natAbs<=if ?u7 then ?q6*(T k k).natAbs else 0
    by_cases z:?u7
    . rw[?bM,?bM,qb2];let ?qH:=g.red c k O9m z.2;exact ?YL
    . rw[?bN,?bN];ext eD
 have all:∀d,d<=r->F4 (a (r-d)) n+e.natAbs<=?AE:=λd=>by
  induction d with
  | zero =>
    intro _
    have:F4 (a (r-0)) n<=F4 (?h8) n:=Mg λk _=>by
     show(if r-0<=k/\k<r then _ else 0)<=0;ext v0;ext eD
    have z:∀m,F4 (λ_=>0) m=0:=λm=>by induction m with
     | zero=>rfl
     | succ m ih=>show F4 (?h8) m+0=0;omega
    rw[z]at this;rw[qx9];omega
  | succ d ih =>
    intro hd;have i1:=?lD;have s:=step (r-?eQ) O9m;have t:=top (r-?eQ) O9m;rw[show r-?eQ+1=r-d by omega]at s t;have p2:2 ^ ?eQ*e.natAbs=?AE+?AE:=?MV
    omega
 have fin:=all r ?u;rw[qh8]at fin
 have le1:?UZ<=?XK:=Mg λk hk=>by
  show _<=if 0<=k/\k<r then _ else 0
  rw[?o #[?aX,hk]];have:=g.pos k hk;exact ?xW
 have le2:∀m,r<=m->?XK<=?S0:=λm=>by
  induction m with
  | zero=>intro h;rw[?a3O r 0];ext eD
  | succ m ih =>
    intro h;by_cases z:r=m+1
    . rw[z];ext eD
    . have:=?lD;show _<=?S0+a 0 m;omega
 have:=le2 n rn;omega
def sP[?F3](he:1<=e.natAbs){x:?t}[?jP](rn:r<=n)(hx:∀c,?fT->v c=?a3W (λk=>x k*?pI))(hv:∀j,?f1->j<n->(v ?h9).natAbs<=?fZ)(h0:?I7):F4 ?uJ n<=?Z3:=by
 have one:∀j,?f1->j<n->(x j).natAbs<=1+?yP:=λj h1 h2=>by
  have p:=?xY;have e1:=hx ?h9 (?a3Y K.lt);rw[?qJ (j:=j+1) ?g λk h3 h4=>by rw[?uI k _ ?g h4 (K.inc j k h1 ?g h4),qd4]]at e1;have e2:v ?h9=?AI+?HK:=by rw[←?xX];exact e1
  have e3:(?AI).natAbs<=?yP*?fZ:=by
   rw[←Zk];apply qa5 (Vz _ j) ?VP;let ?qH:=K.red k j h1 hk h2;show(x k*_).natAbs<=_;rw[qb2];exact ?YL
  have e4:=?a3Y hv
  have e5:(?HK).natAbs<=(1+?yP)*?fZ:=by
   rw[qf7,qf5];apply qa5 (Yz (a:=?AI) (m:=?fZ) ?_) (qw1 e3 _);exact qa5 (ql9 (congrArg Int.natAbs e2.symm)) e4
  rw[qb2]at e5;exact qs3 e5 O9m
 have all:∀d,r+d<=n->?WM+1<=?zO:=λd=>by
  induction d with
  | zero=>intro _;rw[qx9];show F4 _ r+1<=_;omega
  | succ d ih =>
    intro hd';have i1:=?lD;have o:=one (r+d) O9m O9m;show ?WM+(x (r+d)).natAbs+1<=_;rw[qh2];have:2 ^ d*2*?BJ=?zO+?zO:=?dO
    omega
 have fin:=all ?p7 O9m;rw[show r+?p7=n by omega]at fin
 have p1:?CR*?BJ=?sC+?CR:=by
  rw[Nat.mul_add,Nat.mul_one,←Nat.mul_assoc,←qe1]
  congr 3
  omega
 have p2:?CR<=?sC:=qa5 (?w2) (qi1 _ he);have p3:?Z3=?sC+?sC:=?MV
 omega
def So.le{M:Mat}{W:Nat}(K:So n W w r kt hd M){i j:Nat}(hi:i<n)(h1:?f1)(h2:j<n):(M i ?h9).natAbs<=?fZ:=by
 have p:=?xY;rcases qk7 i j with z | z | z
 . let ?oS:=K.red i j h1 z h2;omega
 . rw[z,?xX];ext eD
 . rw[?uI i _ ?g hi (K.inc j i h1 z hi)];ext dJ
def bU{π β:Nat}{G:?xV}(he0:0<e)[?FS][?FW](g':F3 w n r E e (tr R))[?F3](K':So n ?P w r kt hd R)(s:?KG)(b1:?aH n n β P) :
 ?aH n n ?UM (?vU):=λi a hi ha=>by
 let#[x,hx]:=(?B9).1 i hi
 have h0:=SO g (x:=x) (v:=R i) (λc hc=>by rw[hx c ?g];exact Ah λk _=>by rw[?hG hc]) λc hc=>by
  let ?oS:=g'.le c i hc hi;show(tr R c i).natAbs<=_;omega
 have h1:=sP K (e:=e) O9m g.sq.rn hx (λj h1 h2=>K'.le hi h1 h2) h0;show(R i ?f4).natAbs<_;rw[hx ?f4 ?g];apply qc1 (qa5 ?TQ (qa5 (Mg (g:=λk=>?q6*?EF) ?rE) ?_)) (m:=?oU*?bQ*?EF) ?_
 . show(x k*_).natAbs<=_;rw[qb2,beside_hi];exact qf0 _ (qe5 (b1 k a hk ha))
 . rw[Zk];exact qc0 _ (qa5 h1 (qf0 _ he))
 . rw[←qe1,←qe1];ext FK
def Zh{π β:Nat}(he0:0<e)[?FS][?ZH][?a1J](b2:?aH n n β PB) :
 ?aH n n ?UM RB:=λi a hi ha=>by
 have ex:∀k,∃y:?t,k<n->∀c,?fT->?pI=?a3W (λi=>y i*R i c):=λk=>by
  by_cases hk:k<n
  . let#[y,hy]:=(?B9).2 k hk;exact#[y,λ_=>hy]
  . exact#[?h8,λz=>?aA z hk]
 let y:?cO:=λk=>Classical.choose (ex k)
 have hy:∀k,k<n->∀c,?fT->?pI=?a3W (λi=>?o8*R i c):=λk=>Classical.choose_spec (ex k)
 have ybd:∀k,k<n->(?o8).natAbs<=?tK*e.natAbs:=λk hk=>by
  apply BV (R:=R) (B:=λi _=>?o8) (t:=t) (a:=0) (i:=n) #[λj l _=>?lS j l,?GD,?V7,λl j _=>?s4 l j] (?fQ) i hi;rw[←hy k hk ?eN (?iI j hj)];have p:=?K5;by_cases z:j<r
  . rw[?hG ?T6];let ?w9:=g.le k ?eN hk ?T6;exact qa5 (show(T k ?eN).natAbs<=e.natAbs by omega) (?xW)
  . let ?w9:=ker j O9m hj;rw[q2];rw[q1];exact qa5 (K.le hk O9m hj) (qm4 _ O9m)
 have rel:RB i a=?AY:=by
  have z:∀c,?fT->?GS=0:=λc hc=>by
   have e1:?a3W (λl=>RB l a*?j5)=?D9:=s.pt a c
   have e2:?D9=?a3W (λl=>?mY*?j5):=by
    have:?D9=?a3W (λk=>?c (λl=>?RG*?j5) n):=Ah λk hk=>by
     rw[hy k hk c hc,←Ay];exact Ah λl _=>?dO
    ext eE;exact Ah λl _=>by rw[Db]
   have e3:?GS=?a3W (λl=>RB l a*?j5+(-1)*(?mY*?j5)):=Ah λl _=>?dO
   rw[e3,Cm,Ay,e1,e2];omega
  have d:=s.dual dl
  have q:?vD=RB i a-?AY:=by
   have:?vD=?a3W (λc=>?c (λl=>(RB l a-?mY)*(R l (w+c)*RB i c)) n):=Ah λc _=>by
    rw[←Db];exact Ah λl _=>?iG
   ext eE
   rw[?aS hi λl hl ne=>by
    rw[Ay];have:=d l i hl hi;unfold pD at this;rw[this,?j4,qd4]]
   rw[Ay];have:=d i i hi hi;unfold pD at this;rw[this,?L,qm0]
  have q0:?vD=0:=?bK λc hc=>by rw[z (w+c) ?g,qf8]
  omega
 rw[rel]
 have m1:(?AY).natAbs<=n*(?tK*?bQ*?EF):=Qb λk hk=>by
  rw[qb2];exact qf4 (qa5 (ybd k hk) (qf0 _ he)) (qe5 (b2 k a hk ha))
 apply qc1 m1 (qc1 (qc0 _ (qe5 (qr5 (n:=n)))) ?_);rw[←qe1,←qe1,←qe1];ext FK
def Du.same{W n:Nat}{R:Mat}[?nM](st:Du W n R t)[?jP](hv:In W n R v){j:Nat}(hj:j<n)(h0:∀k,k<j->?u0=0)(h1:v ?eN=?qC)(h2:∀k,j<k->k<n->0<=?u0/\?u0<R k ?kZ):∀c,c<W->v c=R j c:=by
 let#[x,hx]:=hv
 have hu:∀c,c<W->v c-R j c=?G5:=λc hc=>by
  have e:?G5=?a3W (λk=>x k*R k c+(-1)*((?u3)*R k c)):=Ah λk _=>?dO
  rw[e,Cm,Ay,Dv,?o hj,←hx c hc];omega
 have all:∀k,k<n->(x k-?u3)=0:=λk=>by
  induction k using Nat.strongRecOn with
  | _ k ih =>
    intro hk;have p:=?oL k hk;have e:=hu ?kZ (?iI k hk)
    rw[?aS hk λi hi ne=>by
     rcases qh3 i k with z | z
     . rw[ih i z hi,qf8]
     . rw[?sE i _ hi (?lS k i ?g hi),qd4]]at e
    have small:(?u0-R j ?kZ).natAbs<?EJ:=by
     rcases qk7 k j with z | z | z
     . rw[h0 k z,?sE j _ hj (?lS k j z hj)];omega
     . subst z;rw[h1];omega
     . have a:=h2 k z hk;have b:=?s4 j k z hk;omega
    rw[e,qb2]at small;apply qg7 λne=>?_;have:1*?EJ<=(x k-?u3).natAbs*?EJ:=?XL;omega
 intro c hc;have:=hu c hc;rw[?bK λk hk=>by rw[all k hk,qf8]]at this;omega
def NG[?ZH]{j:Nat}(h1:?f1)(h2:j<n):∀c,?fT->R j c=?a4 w T P j c:=λc hc=>by
 apply(st.same ((?B9).2 j h2) h2 (?rE) ?_ (λk hk hn=>?_) c hc).symm
 . by_cases z:k<r
   . rw[?hG ?TL];exact ?X6 j _ h1 h2 ?TL
   . rw[(ker k ?g ?g).1];exact ?uI j _ h1 h2 (K.inc k j O9m hk h2)
 . let ?oS:=?a3Y ker;rw[b,a];exact ?xX
 . let ?oS:=ker k O9m hn;rw[b,a];exact K.red j k O9m hk hn
universe e9
universe Lat
namespace Hb
open Lat
section
variable{n w b0 D π b β D2 π2 b2 β2 C1 C2:Nat}{A:Mat}
universe e9
abbrev AI(n:Nat)(f:?NC):Bool:=(?oM).all f
def Mc{n:Nat}{f:?NC}(h:AI n f=true):∀i,i<n->f i=true:=λi hi=>?yR h i (?n6 hi)
universe Hb
namespace Lat
open Hb
def RG:∀(k:Nat) (s:?r),(∀x y,x<=k->y<=k->s x=s y->x=y)->∃x,x<=k/\k<=s x
 | 0,s,_=>#[0,?b4,?aX]
 | k+1,s,h=>by
   refine Classical.byContradiction;intro no
   have lt:∀x,x<=k+1->s x<=k:=λx hx=>by
    rcases qh3 k (s x) with z | z
    . exact ?aA #[x,hx,z] no
    . exact z
   let#[x,hx,hk]:=RG k (λx=>if s x=k then s ?a6 else s x) λx y hx hy e=>by
    by_cases h1:s x=k
    . by_cases h2:s y=k
      . exact h x y O9m O9m (?OQ h2.symm)
      . rw[?o h1,?wZ]at e;have:=h ?a6 y ?u O9m e;omega
    . by_cases h2:s y=k
      . rw[?rX,?o h2]at e;have:=h x ?a6 O9m ?u e;omega
      . rw[?rX,?wZ]at e;exact h x y O9m O9m e
   have l1:=lt x O9m;have l2:=lt ?a6 ?u;by_cases h1:s x=k
   . rw[?o h1]at hk;have:=h x ?a6 O9m ?u O9m;omega
   . rw[?rX]at hk;omega
def VF{n:Nat}{P PB P':Mat}(h:∀a b,a<n->b<n->pT n PB P a b=?E3)(x:Nat):∀c,c<n->P' x c=?TN:=λc hc=>by
 have e:?TN=?a3W (λa=>?A8*pT n PB P a c):=by
  rw[Ah λu _=>(Db _ _ _).symm,B5];apply ?xG;show _=?A8*?a3W (λk=>?qN*P k c);rw[←Ay];exact Ah λk _=>by rw[qe0]
 rw[e,?aS hc λa ha ne=>by rw[h a c ha hc,?j4,qd4],h c c hc hc,?L,qm0]
universe Lat
namespace Hb
open PySem L2
abbrev Drawn(h w b0:Nat):Prop:=(h<=7/\w<=8/\b0=4)\/(h<=4/\w<=5/\b0=22)\/(h<=2/\w<=3/\b0=69)
structure Ta[?i](H:Hp)[?FP](n w k:Nat)[?gY]:Prop where
 tup:?a4U tp ?WU
 num:?a37 nm (VI k f)
 left:?a66 H
 lback:?a42 H
 right:?a41 H
 rback:?a67 H
def AN.r[?Q][?a14][?jI][?a15]:?PE:=#[x.tup,.of x.num,?DM,?z0,?wU,?zX]
def Ta.same[?Q][?a14][?jI][?a18][?h0]:?PE:=#[s.seqT x.tup,s.seq x.num,?jC s ?DM,?jC s ?z0,?jC s ?wU,?jC s ?zX]
section
variable[?i]
universe e9
structure Sta where
 T:?cO
 f:?cO
 l:?cO
 lb:?cO
 r:?cO
 rb:?cO
abbrev dot(x y:?t)(n:Nat):Int:=?a3W (λk=>x k*y k)
abbrev dl(a b:Nat):Int:=?LA
structure Good(h w:Nat)(S:Sta):Prop where
 l1:∀r s,r<h->s<h->dot (S.l r) (S.lb s) h=dl r s
 l2:∀a b,a<h->b<h->?c (λk=>S.lb k a*S.l k b) h=dl a b
 r1:∀r s,r<w->s<w->dot (S.r r) (S.rb s) w=dl r s
 r2:∀a b,a<w->b<w->?c (λk=>S.rb k a*S.r k b) w=dl a b
 now:∀i j,i<h->j<w->S.f i j=dot (λb=>dot (S.l i) (λa=>S.T a b) h) (S.r j) w
abbrev unit:?cO:=?OK
universe Hb
namespace Lat
open Hb
def Zj(g:?t):∀n,?YM=g 0+?U6
 | 0=>by show ?c g 0+g 0=_;show 0+g 0=g 0+0;omega
 | n+1=>by
   show ?YM+g ?G=g 0+(?U6+g ?G)
   rw[Zj g n,ql4]
abbrev Yq(A:Mat)(j:Nat):Mat:=λr c=>A ?fF (if c<j then c else c+1)
def eY:∀(n:Nat) (A:Mat),det ?G A=?YD
 | 0,A=>rfl
 | n+1,A=>by
   have e:∀i j,i<n+1->j<n+1->?TO=?OT:=λi j _ _=>Dt λr c _ _=>by
    show A (if r+1<i+1 then r+1 else r+1+1) ((if c<j then c else c+1)+1)=A ((if r<i then r else r+1)+1) (if c+1<j+1 then c+1 else c+1+1)
    congr 1
    . split<;>split<;>omega
    . split<;>split<;>omega
   show ?c (λi=>Uj i*A i 0*?a49 Hf i) (n+1+1)=_;rw[Zj,Zj (λj=>?LZ*?a49 Yq j)];have e0:?a49 Hf 0=?a49 Yq 0:=rfl;rw[e0]
   congr 1
   have l:?c (λi=>?RE*?a49 Hf ?H) ?G=?c (λi=>?c (λj=>?RE*(Uj j*A 0 ?bG*?TO)) ?G) ?G:=Ah λi _=>by
    rw[eY n,Ay];rfl
   have r:?c (λj=>?N7*?a49 Yq ?bG) ?G=?c (λj=>?c (λi=>?N7*(Uj i*A ?H 0*?OT)) ?G) ?G:=Ah λj _=>by
    rw[Ay];rfl
   rw[l,r,B5];apply Ah λj hj=>Ah ?hR;rw[e i j hi hj,Zx,Zx]
   grind
def Vo:∀(n:Nat) (A:Mat),det n (λr c=>A c r)=det n A
 | 0,_=>rfl
 | n+1,A=>by
   rw[eY n A];apply Ah ?hR;rw[←Vo n (Yq A i)];rfl
abbrev XX[?eF](A:Mat)(D:Nat):Prop:=∀(k:Nat) (r c:?r),(∀x,x<k->r x<n)->(∀y,y<k->c y<w)->(det k λx y=>A ?hW (c y)).natAbs<=D
def KA(k:Nat)(r:?r):(?RR)\/∀x y,x<k->y<k->r x=r y->x=y:=by
 by_cases h:?RR
 . exact ?h h
 . exact ?m λx y hx hy e=>Classical.byContradiction λz=>h #[x,y,hx,hy,z,e]
def tW{k:Nat}(M:Mat)(s:?r){y0:Nat}(h0:y0<k):?a7D ?Y9 ?J8:=by
 by_cases z:y0=0
 . subst z
   congr 1
   exact Dt λx y _ _=>by
    by_cases q:y=0
    . rw[?fH,q]
    . rw[?d5,?d5]
 rw[←Vo k ?J8,←Vo k ?Y9];have e:=IB (A:=?kM) (?a2B 0 k) h0 (?HV) (?q9) (?zY)
 have e1:Bz (Bz ?kT 0 ?q9) y0 (?zY)=?kM:=by
  rw[show Bz ?kT 0 (?q9)=?kM from Ik ?kT 0];exact Ik ?kT y0
 have e2:Bz (Bz ?kT 0 ?zY) y0 (?q9)=?Y5:=by
  funext y x
  unfold Bz;by_cases q:y=y0
  . rw[?fH,?aE,?fH]
  . rw[?d5];by_cases q2:y=0
    . rw[?o q2,?o q2]
    . rw[?j q2,?j q2,?d5]
 rw[e1,e2]at e;show ?a7D ?Y5 ?kM;rw[e,qc7]
def Ya[?a1F]:∀(k:Nat) (r s:?r),(∀x,x<k->r x<n)->(∀y,y<k->s y<w+n)->(det k ?VG).natAbs<=D
 | 0,r,s,hr,hs=>h 0 r s hr λy hy=>O9m
 | k+1,r,s,hr,hs=>by
   rcases KA ?a6 r with⟨x,y,hx,hy,ne,e⟩ | inj
   . rw[?GB];ext dJ
   by_cases z:∃y,y<k+1/\w<=s y
   . let#[y0,hy,q]:=z;rw[←tW (λx y=>?a3X y) s hy]
     have first:∀s':?r,w<=s' 0->(∀y,y<k+1->s' y<w+n)->(det ?a6 ?K0).natAbs<=D:=λs' h0 hs'=>by
      show(?c (λi=>Uj i*?a4 w A one (r i) (s' 0)*?RV) ?a6).natAbs<=D;have ih:∀i,i<k+1->(?RV).natAbs<=D:=λi hi=>Ya h k (λx=>r (if x<i then x else x+1)) (λy=>s' (y+1)) (λx hx=>hr _ (by ext h1)) λy hy=>hs' _ O9m
      have cell:∀x,?a3X (s' 0)=if r x=s' 0-w then 1 else 0:=λx=>by
       unfold beside one;ext v0
      by_cases z:∃i,i<k+1/\r i=s' 0-w
      . let ?IF:=z
        rw[?aS hi λx hx ne=>by
         rw[cell,?j λq=>ne (inj x i hx hi (q.trans ?iK))];simp]
        rw[qb2,qb2,Y3,qf5,cell,?b1];show 1*_<=D;rw[qf5];exact ih i hi
      . rw[?bK λx hx=>by
         rw[cell,?j λq=>z #[x,hx,q]];simp]
        ext dJ
     exact first (λy=>?a24 0) q λy hy'=>hs _ (by split;omega;ext h1)
   . have e:det ?a6 (?VG)=det ?a6 λx y=>A ?hW (s y):=Dt λx y _ hy=>?hG (qj1 λq=>z #[y,hy,q]);rw[e];exact h ?a6 r s hr λy hy=>qj1 λq=>z #[y,hy,q]
def XX.dets[?a1F]:?NZ:=λi hi s hs=>Ya h i (λx=>x) s (λx hx=>O9m) hs
def few{n k:Nat}{f:?r}(h:∀x,x<k->f x<n)(inj:∀x y,x<k->y<k->f x=f y->x=y):k<=n:=by
 rcases qh3 n k with z | z
 . let#[x,h1,h2]:=RG n f λx y hx hy e=>inj x y O9m O9m e;have:=h x O9m;omega
 . exact z
def jU{n w B D:Nat}{A:Mat}(hA:∀i c,i<n->c<w->?IP<=B)(hD:∀i,i<=n->i<=w->eW i*B ^ i<=D):?MB:=λk r c hr hc=>by
 rcases KA k r with⟨x,y,hx,hy,ne,e⟩ | h1
 . rw[?GB];ext dJ
 . rcases KA k c with⟨x,y,hx,hy,ne,e⟩ | h2
   . rw[←Vo,Gn (A:=λr' c'=>A (r c') (c r')) hx hy ne ?IU];ext dJ
   . exact qa5 (TV λx y hx hy=>hA _ _ (hr x hx) (hc y hy)) (hD k (few hr h1) (few hc h2))
structure V3(k w:Nat)(Q:Mat)(p:?r):Prop where
 zero:∀j c,?gG->j<w->c<p j->Q j c=0
 inc:∀i j,k<=i->i<j->j<w->p i<p j
 lt:∀j,?gG->j<w->p j<w
 pos:∀j,?gG->j<w->0<Q j ?gO
 red:∀i j,k<=i->i<j->j<w->0<=Q i ?gO/\Q i ?gO<Q j ?gO
def So.loops{n w r:Nat}[?uY]{T Q:Mat}(h:So w (n+w) n r kt hd (?a4 n T Q)):V3 r w Q λj=>kt j-n:=by
 have at':∀i j,?f1->j<w->Q i (kt j-n)=?a4 n T Q i ?h9:=λi j h1 h2=>by
  have:=?WB;rw[←?YK n T Q i (kt j-n),show n+(kt j-n)=kt j by omega]
 apply#[?XR,?UB,?IT,?IT,?UB]
 . rw[←?YK n T Q j c];exact ?oZ j _ h1 h2 O9m
 . have:=h.inc i j h1 h2 h3;have:=h.ge i h1 O9m;omega
 . have:=?a3Y h.lt;have:=?WB;omega
 . rw[at' j j h1 h2,?a3Y h.head];exact ?PQ
 . rw[at' i j ?g h3,at' j j ?g h3,h.head j ?g h3];exact h.red i j O9m h2 h3
def V3.congr{k w:Nat}{Q Q':Mat}{p:?r}(h:?wS)(e:∀j,?gG->Q' j=Q j):V3 k w Q' p :=
 #[λj c h1 h2 h3=>by rw[e j h1];exact ?oZ j c h1 h2 h3,h.inc,h.lt,λj h1 h2=>by rw[e j h1];exact ?PQ,λi j h1 h2 h3=>by rw[e i h1,e j ?g];exact h.red i j h1 h2 h3]
universe Lat
namespace Hb
open Lat
structure mU(n w b0 D π b β D2 π2 b2 β2 C1 C2 F:Nat):Prop where
 dπ:?x2
 nb:?P8
 wb:w*D<=?bR
 b0π:?BI
 πb:π<=b
 bβ:b<β
 nβ:?xI
 st:?TX
 π9:?lW
 d2:∀i,i<=n->i<=w->?D0<=D2
 dπ2:D2<=?lE
 wb2:w*D2<=?BN
 bπ2:b<=π2
 πb2:π2<=b2
 bβ2:b2<β2
 wβ2:w+b<β2
 st2:∀i,i<w->?GY
 π92:?LL
 c1:∀r,r<=n->r<=w->?a6C π n<=C1
 c2:∀r,r<=n->r<=w->?a6C π2 w<=C2
 f1:?a6Z F
 f2:?a78 F
 fb:F<=XQ
section
variable{n w b0 D π b β D2 π2 b2 β2 C1 C2 F:Nat}{A:Mat}
abbrev UF[?a1B](m:Nat)(M:Mat)(l r:?c4):Prop:=∃(k:Nat) (e:Int) (kl kr:?r) (hl hr:?t),Ug n w k D π m e A M l.1 l.2 r.1 r.2 kl kr hl hr/\m<=?aO/\e<=D/\(∀j,?gG->j<n->hl j<=?bQ)/\(∀j,?gG->j<w->hr j<=?lE) ∧
 ?aH n n (?l3) l.1/\?aH n n (?l3) l.2/\?aH w w (?i6) r.1/\?aH w w (?i6) r.2/\?pU/\?z4/\?x1
def Aj9[?ZM]:Uh n w A ?WT ?WT (λM l r=>∃m,?VZ):=by
 have o0:∀b i j,?QB<=?bR:=λb i j=>qa5 (Ad1 i j) ql3;have hM:=DF (W:=n) hA λi c _ _=>o0 b0 i c;apply#[JF n w (?a4 w A one),X2 hM ?d6 ?iC p.nb p.b0π (qa5 p.b0π p.πb) p.bβ p.nβ p.st ?t7 (Vk n w A),?N1,JF.lt,λt1 s1 h1=>?_];have hR:∀i c,i<w->c<n->((λi j=>s1.1 j i) i c:Int).natAbs<=?bR:=λi c hi hc=>qa5 (h1.rowD ?d6 ?u (λc h=>h) hc (show i<w+n by omega)) p.nb;have hM2:=DF (W:=w) hR λi c _ _=>o0 b i c;have MM:P7 w (λc=>c<n+w) (?a4 n (tr s1.1) one) D2:=(jU hR λi h1 h2=>p.d2 i h2 h1).dets;apply#[JF w n (?a4 n (λi j=>s1.1 j i) one),X2 hM2 MM p.dπ2 p.wb2 p.bπ2 (qa5 p.bπ2 p.πb2) p.bβ2 p.wβ2 p.st2 p.π92 (Vk w n _),?N1,JF.lt,λt2 s2 h2=>?_];have bb1:=Ua hM ?d6 (λk a=>rfl) h1 ?u p.nb (qa5 p.b0π p.πb) p.bβ p.nβ;have bb2:=Ua hM2 MM (λk a=>rfl) h2 ?u p.wb2 (qa5 p.bπ2 p.πb2) p.bβ2 p.wβ2;let#[k,e,kn,kw,he,wk,hl,hr]:=iW (L:=π) ?d6 MM h1 h2
 have up:∀{x:Int}{a q:Nat},x<=a->a<=2 ^ q->x<=2 ^ q:=λ{x a q} h1 h2=>by
  exact qv4 h1 (by exact_mod_cast h2)
 have km:k*?f7<=?aO:=?XL;exact#[k*?f7,k,e,_,_,_,_,wk,km,he,λj _ h=>up (hl j h) ?iC,λj _ h=>up (hr j h) p.dπ2,Mq (X9 bb1.1) ?mE,Mq bb1.2.1 ?mE,Mq (X9 bb2.1) ?mE,Mq bb2.2.1 ?mE,(Nj.one n).go h1.good.pt,(Nj.one w).go h2.good.pt,λj c _ hj hc=>qa5 (h2.rowD MM ?u (λc h=>h) hj (show n+c<n+w by omega)) p.wb2]
def Af7(p:?LC){m:Nat}{M:Mat}{l r:?c4}(h:?VZ)(ns:¬Straight n w M):?a5C (λM' l' r'=>∃m',m'<m/\UF n w D π β π2 β2 b2 A m' M' l' r'):=by
 let#[k,e,kl,kr,hl,hr,wk,hm,he,ηl,ηr,q1,q2,q3,q4,v1,v2,sp]:=h;let#[lg,le]:=Af5 he ?iC ?dV;have rn:=wk.going.sq.rn;have rw':=wk.going.sq.rw;have c1:=p.c1 k rn rw';have c2:=p.c2 k rn rw';ext ZZ
 have sC:∀C,(?aO-m)*C+C<=(?aO+1)*C:=λC=>by
  rw[qf7,qf5];exact qq8 (?R4) _
 ext a0U;have b1:?l3+Nn π b π k n<=big:=O9m
 have vC:?i6+Nn π b π2 k w<=big:=O9m
 have β1:?gJ<=?l3:=by have:=p.πb;have:=p.bβ;omega
 have β1':π2+1<=?i6:=by have:=p.πb2;have:=p.bβ2;omega
 have tb:∀{n' w':Nat}{T:Mat}{x:Nat},?gJ<=x->F3 n' w' k D e T->∀i c,i<n'->c<w'->?mL<2 ^ x:=λ{n' w' T x} hx g i c hi hc=>by
  let#[g1,g2]:=g.le i c hi hc;have:?mL<=?bQ:=O9m
  exact qc1 ?a0 (?nV)
 have bl:=X8 (tb β1 ?mS) q1;apply#[JL n w k (?a4 w M l.1) l.2 kl hl π b π (?l3),Xy ?mS ?dV ?pS wk.dl ηl β1 b1 ?iC le p.nb p.πb ?t7 ?t7,λt=>?h #[?aX,?HF,wk.kl.bits ηl bl q2 β1],JL.lt,λt1 u1 j1=>?_];let#[#[G1,K1],_,_]:=JL.done rn j1 c1;let#[d1,d2,d3,d4]:=Pf ?dV ?mS ?pS K1 wk.told;have z1:=bU (G:=G1) ?dV le ?mS d2 ?pS d3 ?PX q1;have z2:=Zh ?dV le ?mS ?pS ?PX K1.st.st (λj hj=>K1.tab j hj O9m) (?a4O K1.ker) wk.dl q2;have ker:So w (n+w) n k kr hr (?a34 i):=wk.kr.table λi c h1 h2 h3=>d2.sq.row0 i c h1 h2 h3;have dr:F6 w n (?a34 i) r.2:=Ie wk.dr;have hπ2:?gJ<=?i6:=by have:=p.πb;have:=p.bπ2;omega
 have br:=X8 (tb hπ2 d2) q3;apply#[JL w n k (?a34 i) r.2 kr hr π b π2 (?i6),Xy d2 ?dV ker dr ηr β1' vC ?iC le p.wb p.πb ?t7 p.π92,λt=>?h #[?aX,?HF,ker.bits ηr br q4 β1'],JL.lt,λt2 u2 j2=>?_];let#[#[G2,K2],_,_]:=JL.done rw' j2 c2;let#[_,nx]:=wk.next lg K1 K2;let#[m0,wk']:=nx ns;have k2:∀x c,x<w->c<n->tr u1.1 x c=P8 w n (tr A) (r.1 x) ((?PY) c):=λx c hx hc=>Wb (T:=u1.1) (P:=?PY) d4 x c hx hc;let#[h1,h2,h3,h4]:=Pf ?dV d2 ker K2 k2;have y1:=bU (G:=G2) ?dV le d2 h2 ker h3 ?CX q3;have y2:=Zh ?dV le d2 ker ?CX ?KF (λj hj=>K2.tab j hj O9m) (?a4O K2.ker) dr q4
 have en:∀C,(?VY)*C=(?aO-m)*C+C:=λC=>by
  rw[show ?VY=?aO-m+1 by omega,qf7,qf5]
 apply#[m-1,O9m,k,e,kl,kr,hl,hr,wk',O9m,he,ηl,ηr,?_,?_,?_,?_,v1.go K1.st.good.pt,v2.go K2.st.good.pt,?XR]
 . rw[en,←qr2];exact z1
 . rw[en,←qr2];exact z2
 . rw[en,←qr2];exact y1
 . rw[en,←qr2];exact y2
 . show(u2.1 j (n+c)).natAbs<=_;rw[NG d2 ker ?CX ?KF (λj hj=>K2.tab j hj ?g) (?a4O K2.ker) h1 h2 (n+c) ?g,beside_hi];exact sp j c h1 h2 h3
abbrev YF[?a1B](k d:Nat)[?bV](l r:?c4):Prop:=?K1/\d<=?w4/\BB n n ?qY 0 (β+?sU*?eZ+d*(2*π+4)) l/\BB w w ?qY 0 (β2+?sU*?j2+d*?f7) r/\?pU/\?z4/\(?YE)/\?x1
structure Am7(n w D F b2:Nat)(A:Mat)(k:Nat)[?bV](l r:?c4):Prop where
 dg:?K1
 il:?pU
 ir:?z4
 bl:?aH n n F l.1/\?aH n n F l.2
 br:?aH w w F r.1/\?aH w w F r.2
 lo:?YE
 sp:?x1
def Ax5[?ZM]:aO n w A (Am7 n w D F b2 A):=by
 apply#[UF n w D π β π2 β2 b2 A,YF n w D π β π2 β2 b2 A,Aj9 p hA ?d6,λm M l r h ns=>Af7 p h ns,?_,?_,?_]
 . rintro m M l r ⟨k,e,kl,kr,hl,hr,wk,hm,he,ηl,ηr,q1,q2,q3,q4,v1,v2,sp⟩ hS;have dg:=wk.diag hS;have sC:∀C,(?aO-m)*C<=?sU*C:=λC=>?R4;ext a0U;apply#[k,?AR,RU ?t5 _ (?WA) λx h1 h2=>dg.zero x h1 O9m O9m,dg.mn,dg.mw,dg,?aX,#[Mq q1 O9m,Mq q2 O9m,?MY],#[Mq q3 O9m,Mq q4 O9m,?MY],v1,v2,#[_,wk.kr.loops],sp]
 . rintro k d i j f l r ⟨dg,hd,bl,br,v1,v2,⟨pl,lo⟩,sp⟩ hdk hij hj;ext FC
   have lf:∀x,x<k->(f x).natAbs<=?bQ:=λx hx=>by
    have h1:=dg.le hx;have h2:=?t5 x hx;exact qa5 O9m ?iC
   have kk:?w4<=5*?J+?J*?J:=by
    have h:k<=?J:=O9m
    have:=qf4 h h;omega
   ext ZZ
   have dm:∀X,d*X+X<=?a2S X:=λX=>by
    have:=qc0 X (show d+1<=5*?J+?J*?J+1 by omega);rw[qf7,qf5]at this;exact this
   have d1:=dm (2*π+4);have d2:=dm ?f7;ext ZX;ext a0T;have b1:BB n n ?qY 0 (β+?aO*?eZ+d*(2*π+4)+(1+1)) (addS i j 1 l):=bl.add O9m O9m (k:=1) (c:=1) ?bA;have lt1:∀{x:Nat},x<=?bQ->x<2 ^ (?gJ):=λh=>qc1 h (?nV);apply#[#[#[?W9,?a6A ?k2],#[by have:=?t5 j hj;omega,?a6A ?k8],#[?dY bl O9m,?dY b1 O9m],?dY br O9m],λtM=>#[dg,O9m,bl.mono (by rw[qf7];omega),br.mono (by rw[qf7];omega),v1,v2,#[pl,lo],sp],λg a b' sh=>#[?_,O9m,?_,?_,?_,?_,#[pl,lo.congr ?JG],λx c h1 h2 h3=>?_]]
   . have:=dg.share hij hj sh;unfold shL vN shF addS blendS;simp only[qo3];exact this
   . have lb:(?P1).natAbs<2 ^ (2*π+1):=by
      apply qc1 (qh7 _ _) ?_;rw[qb2];apply qc1 (qf4 (qa5 sh.lb ?k2) ?k8) ?_;rw[←qe1];ext FK
     have vC:=b1.add (p:=j) (q:=i) O9m O9m (k:=-(?P1)) (c:=2*π+1) (by rw[qc7];exact lb);apply vC.mono ?_;rw[qf7,qf5];omega
   . have:=br.blend (p:=i) (q:=j) O9m O9m O9m (x:=a) (y:=b') (z:=-(f j / g)) (u:=?y8) (c:=?gJ) (lt1 (qa5 sh.la ?k8)) (lt1 (qa5 sh.lb ?k2)) (lt1 (by rw[qc7];exact qa5 (qh7 _ _) ?k8)) (lt1 (qa5 (qh7 _ _) ?k2));apply this.mono ?_;rw[qf7,qf5];omega
   . intro x y hx hy;rw[←v1 x y hx hy];exact(?a6X j i).trans (?a6X i j)
   . intro x y hx hy;rw[←v2 x y hx hy];exact gQ _ _ (?a2B i w) (?a2B j w) O9m (?NG (π:=π) (?W9) ?k2 ?k8).one x y
   . exact ?MG
   . have e:(?a48 b').1 x=r.1 x:=?MG;rw[e];exact sp x c h1 h2 h3
 . rintro k d f l r ⟨dg,hd,bl,br,v1,v2,lo,sp⟩;have h:k<=?J:=?WA
   have kk:=qf4 h h;have f1:=p.f1;have f2:=p.f2;have dm:∀X,d*X<=?a2S X:=λX=>qc0 X O9m;ext ZX;have d1:=dm (2*π+4);have d2:=dm ?f7;ext a0T;exact#[dg,v1,v2,#[(?a2Y bl.mono).1,(?a2Y bl.mono).2.1],#[(?a2Y br.mono).1,(?a2Y br.mono).2.1],lo,sp]
universe e9
universe Hb
namespace Lat
open Hb
abbrev mulV(w:Nat)(A:Mat)(x:?t):?t:=λi=>?c (λj=>A i j*x j) w
def aG[?eF](A:Mat)(p x:?t):P8 n w A p x=?a3W (λa=>p a*?aQ w A x a):=rfl
def UD{w:Nat}{Q QB:Mat}(h:∀a b,a<w->b<w->pT w QB Q a b=?E3)(x:?t):∀c,c<w->x c=?c (λy=>?a36 x y*Q y c) w:=VF (P':=λ_=>x) h 0
abbrev numAt[?bV](k i:Nat):Int:=if i<k then f i else 0
section
variable[?a1I][?bW]
universe e9
universe Lat
namespace Hb
open PySem L2
section
variable[?i]
universe e9
section
variable[?i]
universe e9
universe Hb
namespace Lat
open Hb
section
variable[?a1I][?bW]
def lI[?h3](hl:?JU)(hu:∀x,x<n->?UR=0):∀a,a<n->u a=0:=λb hb=>by
 have e:?T7=u b:=by
  have:?T7=?a3W (λx=>?c (λa=>u a*(PB x b*P x a)) n):=Ah λx _=>by
   rw[←Ay];exact ?a3A ?dO
  ext eE
  rw[?aS hb λa ha ne=>by
   rw[Ay];have:=hl b a hb ha;unfold pT at this;rw[this,?j λq=>ne ?rN,qd4]]
  rw[Ay];have:=hl b b hb hb;unfold pT at this;rw[this,?L,qm0]
 rw[←e];exact ?a62 hu
def Hy.spare(h:?V1)(hl:?JU){y:Nat}(h1:k<=y)(h2:y<w):∀x,x<n->?aQ w A (Q y) x=0 :=
 lI hl λx hx=>by
  have:=?yA x y hx h2;rw[aG]at this;rw[this];by_cases z:x=y
  . rw[?bM,z];exact ?oZ y h1 O9m h2
  . rw[?bN]
def Hy.madeS(h:?V1)(hr:?BY)[?jP](hv:∀x,x<n->?aQ w A v x=0):∀c,c<w->v c=?c (λi=>?CG*?pD) ?jX:=λc hc=>by
 have mw:=h.mw;have mn:=h.mn
 have z:∀y,y<k->?E9=0:=λy hy=>by
  have e1:?NY=0:=by
   rw[aG];exact ?a62 hv
  have e2:?NY=f y*?E9:=by
   rw[Xl (p':=P y) (q':=λc=>?c (λu=>?a36 v u*Q u c) w) ?aG (λb hb=>UD hr v b hb),Oc,FL];rw[?aS (?a2B y w) λu hu ne=>by rw[←Oc,?yA y u ?g hu,?j λq=>ne ?rN,qd4]];rw[←Oc,?yA y y ?g ?g,?L,qe8]
  rw[e2]at e1;have p:=h.pos y hy;rcases qr9.mp e1 with q | q
  . omega
  . exact q
 rw[UD hr v c hc]
 have sp:∀d,k+d<=w->?XV=?c (λi=>?CG*?pD) d:=λd=>by
  induction d with
  | zero=>intro _;exact ?bK λy hy=>by rw[z y hy,qf8]
  | succ d ih =>
    intro hd;have i1:=?lD;show ?XV+?a36 v (k+d)*Q (k+d) c=_;rw[i1];rfl
 have:=sp ?jX O9m;rw[show k+?jX=w by omega]at this;exact this
universe e9
section
variable{n w m i:Nat}{d v:?t}{A:Mat}
universe e9
universe Lat
namespace Hb
open Lat
abbrev RN(n w b0 π b β π2 b2 β2 C1 C2 F:Nat):Bool :=
 (?k (n*?bQ<=?bR/\w*?bQ<=?bR/\?BI/\π<=b/\b<β/\?xI)&&(AI n (λi=>?k (?zT))&&(?k (?lW) &&
 (AI (?J+1) (λi=>?k (?D0<=?lE))&&(?k (w*?lE<=?BN/\b<=π2/\π2<=b2/\b2<β2/\w+b<β2)&&(AI w (λi=>?k (?GY))&&(?k (?LL) &&
 (AI (?J+1) (λr=>?k (?a6C π n<=C1/\?a6C π2 w<=C2)) &&
 ?k (?a6Z F/\?a78 F/\F<=XQ)))))))))
def RM{n w b0 π b β π2 b2 β2 C1 C2 F:Nat}(h:RN n w b0 π b β π2 b2 β2 C1 C2 F=true):?a4L (?bQ) (?lE):=by
 unfold RN at h;simp only[qb7,qp5]at h;let#[#[h2,h3,h4,h5,h6,h7],h8,h9,k1,#[k2,k3,k4,k5,k6],k7,k8,k9,m1,m2,m3]:=h
 exact#[?b4,h2,h3,h4,h5,h6,h7,λi hi=>qc2 (Mc h8 i hi),h9,λi h1 h2=>qc2 (Mc k1 i O9m),?b4,k2,k3,k4,k5,k6,λi hi=>qc2 (Mc k7 i hi),k8,
  λr hr hw=>(qc2 (Mc k9 r O9m):_/\_).1,λr hr hw=>(qc2 (Mc k9 r O9m):_/\_).2,m1,m2,m3]
universe Hb
namespace Lat
open Hb
abbrev nX:(?r)->?r
 | _,0=>1
 | B,n+1=>B 0*?n0
def X5:∀{n:Nat}{A:Mat}{B:?r},(∀r c,r<n->c<n->(A r c).natAbs<=B r)->(det n A).natAbs<=eW n*?A6
 | 0,A,B,_=>by show(1:Int).natAbs<=1*1;decide
 | n+1,A,B,h=>by
   rw[eY]
   have e:(?YD).natAbs<=?G*(B 0*(eW n*?n0)):=Qb λj hj=>by
    have d:=X5 (n:=n) (A:=Yq A j) (B:=?yO) λr c hr hc=>by
     unfold Yq;exact h ?fF _ O9m (by ext h1)
    rw[qb2,qb2]
    have s:(Uj j).natAbs=1:=by
     unfold Uj;split<;>rfl
    rw[s,qf5];exact qf4 (h 0 j O9m hj) d
   apply qa5 e (ql9 ?_);show ?G*(B 0*(eW n*?n0))=(?G*eW n)*(B 0*?n0)
   grind
def VU(B:?r):∀n,nX (λr=>2*B r) n=?gH*?A6:=λn=>by
 induction n generalizing B with
 | zero=>rfl
 | succ n ih =>
   show 2*B 0*nX (λr=>2*B ?fF) n=?oU*(B 0*?n0);rw[ih ?yO,qh2]
   grind
def vV{B:?r}:∀{n:Nat},(∀r,r<n->0<B r)->0<?A6:=λ{n} h=>by
 induction n generalizing B with
 | zero=>exact Nat.one_pos
 | succ n ih=>exact Nat.mul_pos (h 0 O9m) (ih λr hr=>h ?fF O9m)
def RC[?bW]:∀{n:Nat},(?qD f n).natAbs=nX (λr=>(f r).natAbs) n:=λ{n}=>by
 induction n generalizing f with
 | zero=>rfl
 | succ n ih =>
   have e:∀m,?ND=f 0*?TZ:=λm=>by
    induction m with
    | zero=>show 1*f 0=f 0*1;omega
    | succ m im =>
      show ?ND*f ?t8=f 0*(?TZ*f ?t8);rw[im,qe0]
   rw[e n,qb2,ih];rfl
section
variable[?a1C]
def V3.stair{k w:Nat}{Q:Mat}{p:?r}(h:?wS):Du w ?jX (λi=>Q ?bC) λi=>p ?bC :=
 #[λj hj=>h.lt ?e4 O9m O9m,?a4P h.inc,λj c hj hc=>?oZ ?e4 c O9m O9m hc,λj hj=>h.pos ?e4 O9m O9m,?a4P h.red]
def fZ(st:?z6)(hB:?Q9){r c:Nat}(hr:r<z)(hc:c<w):B ?iQ c=?c (λk=>L k ?iQ*T k c) ?fF:=by
 rw[hB _ _ (?iI r hr) hc];exact ?qJ O9m λk h1 h2=>by rw[?sE k _ h2 (?lS r k ?g h2),qf8]
def LA[?EO]{i c:Nat}(hi:i<z)(hc:c<w):?mL<=?tK*2:=by
 apply BV (R:=L) (B:=T) (t:=p) (a:=c) (i:=z) #[λj k _=>?lS j k,?GD,?V7,λk j _=>?s4 k j] (?fQ) i hi;rw[show ?a3F (λk=>T k c*L k ?gO)=B ?gO c by rw[hB _ _ (?iI j hj) hc];exact Ah λk _=>?lH];have:=?K5;exact qa5 (b2 _ _ (?iI j hj) hc) (?xW)
def PX[?EO]:∀i,i<=z->∀s:?r,(∀l,l<i->s l<w+z)->(det i ?QF).natAbs<=?MF:=λi hi s hs=>by
 let Z:Mat:=?QF
 let V:Mat:=λr l=>?H7
 have e:det i V=?qD (λj=>L j ?gO) i*?Q2:=dM (T:=λr j=>?xS) (λr c _ _=>rfl) i ?u
 have e2:?Q2=det i Z:=Dt λr c hr _=>by
  show(if r<i then Z r c else V r c)=Z r c;rw[?o hr]
 rw[e2]at e
 have vle:∀r l,r<i->l<i->(?rA).natAbs<=2*?x6:=λr l hr hl=>by
  have pr:=?NP;by_cases c1:s l<w
  . have:?rA=B ?iQ (s l):=by
     rw[fZ st hB ?g c1];exact Ah λj _=>by show ?xS*?UG=_;rw[?hG c1]
    rw[this];exact qa5 (b2 _ _ (?iI r O9m) c1) O9m
  . have zv:∀j,Z j l=if j=?iL then 1 else 0:=λj=>by
     show ?UG=_;unfold beside;rw[?j c1];rfl
    by_cases c2:?iL<r+1
    . have:?rA=L (?iL) ?iQ:=by
       show ?H7=_;rw[?aS c2 λj _ ne=>by rw[zv,?j4,qd4],zv,?L,qm0]
      rw[this];rcases qh3 (?iL) r with q | q
      . let ?qH:=?s4 (?iL) r q O9m;omega
      . rw[?a3O ?iL r];omega
    . have:?rA=0:=?bK λj hj=>by rw[zv,?aE,qd4]
      rw[this];ext dJ
 have big:=X5 (B:=λr=>2*?x6) vle;rw[e,qb2,RC,VU]at big;have pos:0<?M3:=vV λr hr=>by have:=?NP;omega
 apply qs7 (c:=?M3) ?_ pos;apply qa5 big (ql9 ?_)
 grind
universe e9
structure Lev(q m z:Nat)(D L G:Mat):Prop where
 st:∃p,?z6
 du:∀i j,i<z->j<z->?a7S (λc=>G i c*L j c)=?s5
 cyc:∀i,i<z->?a2T (L i)
 all:∀v:?t,(?a2T v)->∀c,c<m->v c=?a3F (λi=>?a7S (λa=>?hP*v a)*L i c)
abbrev gT(m:Nat)(G B:Mat):Mat:=λi c=>?HD
section
variable{q m z w:Nat}{D L G B:Mat}
def Lev.first(m:Nat)(D:Mat):Lev 0 m m D one one:=by
 have d:∀i j,i<m->j<m->?a7S (λc=>one i c*one j c)=?s5:=λi j hi hj=>by
  rw[?aS hi λk _ ne=>?JC];unfold one;rw[?L,qd8];by_cases z:i=j
  . rw[?bM,?o ?d7]
  . rw[?bN,?j λy=>z y.symm]
 apply#[#[λi=>i,λj hj=>hj,λj k h _=>h,λj c _ hc=>?j O9m,λj _=>by show 0<one j j;unfold one;rw[?L];decide,λk j hk _=>?_],d,λi _ x hx=>O9m,λv _ c hc=>?_]
 . show 0<=one k j/\one k j<one j j;unfold one;rw[?aE,?L];decide
 . rw[?aS hc λi hi ne=>by
    show _*one i c=0;unfold one;rw[?j4,qd4]]
   show v c=?a7S (λa=>one c a*v a)*one c c;rw[?aS hc λa _ ne=>?JC];unfold one;rw[?L,qd8,qm0]
def Lev.told[?ES]:∀a c,a<m->c<w->?fE=?a3F (λi=>L i a*gT m G B i c):=λa c ha hc=>by
 rw[h.all (λa=>?fE) (tw c hc) a ha];exact Ah λi _=>?lH
def Aj3(m w:Nat)(G B:Mat)[?nJ](i:Nat):?wF=?a7S (λa=>?hP*?aQ w B v a):=by
 have e1:?wF=?c (λc=>?a7S (λa=>?hP*?fE*v c)) w:=Ah λc _=>by
  show ?HD*v c=_;rw[←Db]
 rw[e1,B5]
 exact Ah λa _=>by
  show ?c (λc=>?hP*?fE*v c) w=?hP*?c (λc=>?fE*v c) w;ext F7
def Lev.next{E k:Nat}[?bW]{P PB Q QB:Mat}{p:?r}[?ES][?F4](il:?DH)(ir:?BY)(lo:?wS) :
 Lev m w ?jX B (λi=>Q ?bC) λi=>QB ?bC:=by
 have tl:=?RX;have mw:=dg.mw;apply#[#[_,lo.stair],λi j hi hj=>?_,λi hi x hx=>?_,λv hv c hc=>?_]
 . have:=dg.dr ?e4 ?bC O9m O9m;unfold pD at this;rw[show ?c (λc=>?YB*Q ?e4 c) w=?c (λc=>Q ?e4 (0+c)*?YB) w from Ah λc _=>by rw[qs5,qe8],this];by_cases z:i=j
   . rw[?bM,?iN]
   . rw[?bN,?aE]
 . have t0:=dg.spare il (y:=k+i) O9m O9m
   have e:?KJ=?a3F (λa=>L a x*?aQ w ?lQ (Q ?bC) a):=by
    have e1:?KJ=?a3B (λa=>L a x*?JK*?pD) w:=Ah λc hc=>by
     rw[tl x c hx hc,←Db]
    rw[e1,B5]
    exact Ah λa _=>by
     show _=L a x*?c (λc=>?JK*?pD) w;ext F7
   rw[e];exact ?a63 t0
 . have t0:∀i,i<z->?wF=0:=λi _=>by
    rw[Aj3];exact ?a63 hv
   rw[dg.madeS ir t0 c hc];exact Ah λi _=>by rw[show ?CG=?c (λa=>?TG*v a) w from ?a3A ?lH]
universe e9
section
variable[?a19][?bW]
abbrev turnL(z:Nat)(P L:Mat):Mat:=λi c=>?J5
def qO(z m:Nat)(D P L:Mat)(i x:Nat):?FZ=?a3F (λj=>?eX*?aQ m D (L j) x):=by
 have e:?FZ=?a7S (λc=>?a31 (D x c*L j c)):=Ah λc _=>by
  show D x c*?J5=_;rw[←Ay];exact ?a5X ?dO
 rw[e,B5];exact Ah λj _=>by rw[Ay];rfl
def Lev.round(h:?wT)(i:Nat):?a2T (?g3 z PB L i):=λx hx=>by
 rw[qO];exact ?bK λj hj=>by rw[h.cyc j hj x hx,qd4]
def Lev.gauge(h:?wT)(dl:F6 z 0 P PB){i j:Nat}(hi:i<z)(hj:j<z):?w0=?s5:=by
 have e1:?w0=?a3F (λa=>?tP*?uR):=by
  have:?w0=?a3B (λa=>?tP*(?eO*?tS)) m:=Ah λc _=>by
   show ?a3F (λa=>?tP*?eO)*?tS=_;rw[←Db];exact ?a3A ?iG
  ext eE;exact ?a3A ?mC
 have e2:∀a,a<z->?uR=PB j a:=λa ha=>by
  have:?uR=?a3F (λb=>?z7*?a7S (λc=>?TU)):=by
   have:?uR=?a3B (λb=>?z7*(?TU)) m:=Ah λc _=>by
    show ?eO*?a3F (λb=>?z7*L b c)=_;rw[←Ay];exact ?AV
   ext eE;exact Ah λb _=>?mC
  rw[this,?aS ha λb hb ne=>by rw[h.du a b ha hb,?AH,qd4],h.du a a ha ha,?L,qm0]
 rw[e1,Ah λa ha=>by rw[e2 a ha]];have:=dl i j hi hj;ext a0F
def Lev.filling[?ES][?F4](il:?DH){i:Nat}(hi:i<k):∀a,a<m->?xC=f i*?g3 z PB L i a:=λa ha=>by
 ext FC;have tl:=?RX
 have tq:∀x,x<z->?aQ w ?lQ (Q i) x=f i*PB i x:=λx hx=>by
  have e:∀y,y<z->?N5=0:=λy hy=>by
   have e1:?N5=?a3F (λb=>P y b*?y6+-(f i)*(P y b*?p0)):=?AV
   have e2:?a3F (λb=>P y b*?p0)=if y=i then 1 else 0:=by
    have:=dg.dl y i hy O9m;ext a0F
   rw[e1,Cm,Ay,e2,←aG,dg.diag y i hy ?g];by_cases q:y=i
   . rw[?fH,?fH,q];omega
   . rw[?d5,?d5];omega
  have:=lI (u:=λb=>?YR) il e x hx;show _=_;omega
 have e1:?xC=?a3F (λb=>L b a*?y6):=by
  have:?xC=?a3B (λb=>L b a*?UC*Q i c) w:=Ah λc hc=>by
   rw[tl a c ha hc,←Db]
  ext eE
  exact Ah λb _=>by
   show _=L b a*?c (λc=>?UC*Q i c) w;ext F7
 rw[e1];show _=f i*?a3F (λj=>PB i j*L j a);rw[←Ay];exact Ah λb hb=>by rw[tq b hb];grind
universe e9
universe Lat
namespace Hb
open Lat
abbrev kB(n:Nat):Nat:=?H4 (?BH)+1
abbrev SM(f:?r):?r
 | 0=>f 0
 | n+1=>max (f ?G) (SM f n)
abbrev kP(b i:Nat):Nat:=max b (?H4 (?D0)+1)
abbrev kS[?eF]:Nat:=?wP+6
abbrev bookF:Nat:=26500000
abbrev A82[?eF]:Bool:=RN n w ?G ?s1 ?qI (kB n+n+8) (?wP) (kS n w) (kS n w+w+2) (SM (λr=>Nn ?s1 ?qI ?s1 r n) ?kO) (SM (λr=>Nn ?s1 ?qI (?wP) r w) ?kO) ?bB
def xQ:(AI 41 λn=>AI (41-n) λw=>A82 n w)=true:=?z
def Ak0:∀{i n:Nat},i<=n->?MF<=?BH:=λ{i n} h=>by
 induction n with
 | zero=>rw[?a3O i 0];ext eD
 | succ n ih =>
   by_cases e:i=n+1
   . rw[e];ext eD
   . apply qa5 (?lD) ?_;show ?BH<=?G*eW n*?oU;exact qf4 (qm4 _ O9m) (?w2)
def pX[?a1C][?EO](h:z+w<=40):aO z w T (Am7 z w (2 ^ kB z) ?bB (kS z w) T):=by
 have P:=RM (Mc (Mc xQ z O9m) w O9m);apply Ax5 P (λi c hi hc=>?_) λi hi s hs=>?_
 . apply qa5 (LA st hB b2 hi hc) ?_;rw[←qh2];exact ?w2
 . apply qa5 (PX st hB b2 i hi s hs) (qa5 (Ak0 hi) ?_);exact qe5 Nat.lt_log2_self
universe Hb
namespace Hb
open PySem L2
noncomputable abbrev Ms:=?qO
abbrev nd(ms:Ms):Prop:=(?aD (·.1)).Nodup
abbrev nz(ms:Ms):Prop:=∀p∈ms,p.2≠0
abbrev Jo(ms:Ms)(k n:Int):Ms:=if ?iP=0 then ?eK else ?f5 ms k (?iP)
abbrev Em(ms ns:Ms):Ms:=ns.foldl (λacc p=>Jo acc p.1 p.2) ms
abbrev Hv(n:Int)(ms:Ms):Ms:=if n=0 then [] else ?a6G ?iY
abbrev Dh(ms:Ms):Ms:=ms.filter λp=>?k (p.2≠0)
abbrev wI(ns ms:Ms):Int:=(?tQ λp=>p.2*?y5).sum
def K5[?v7](h:?iW=?gI):?oE∈ms:=by
 induction ms with
 | nil=>simp[lookI]at h
 | cons p ms ih =>
   rw[Dw]at h;by_cases e:?dA
   . rw[?b1]at h;have:p=?oE:=by cases p;simp_all
     rw[this];exact ?jU
   . rw[?cI]at h;exact qb6 _ (ih h)
def OI[?v9](h:k ∉ ?aD (·.1)):?SI:=by
 cases e:lookI ms k with
 | none=>rfl
 | some v=>exact ?aA (qj7 (f:=(·.1)) ?AX) h
def E5[?aT][?vA](hp:p∈ms):?dB ms p.1=?d p.2:=by
 induction ms with
 | nil=>cases hp
 | cons q ms ih =>
   rw[Dw];ext jJ;rcases qd9.mp hp with rfl | hp
   . rw[?L]
   . have:¬q.1=p.1:=λz=>h.1 (by rw[z];exact qj7 (f:=(·.1)) hp);rw[?y2];exact ih h.2 hp
def E7[?v9](h:k ∉ ?aD (·.1)):?a2=0:=by unfold Au;rw[OI h];rfl
def Ds(p:?b2)(ms:Ms)(k:Int):Au ?tM k=if ?dA then p.2 else ?a2:=by
 unfold Au;rw[Dw];split<;>rfl
def HG[?nH](k:Int):?iW=if ?a2=0 then none else ?d (?a2):=by
 unfold Au;cases e:lookI ms k with
 | none=>rfl
 | some v =>
   have:=h _ ?AX;show ?gI=if v=0 then none else ?gI
   rw[?y2]
def eK:∀(l1 l2:?y),l1.Nodup->(∀x∈l1,x∈l2)->l1.length<=l2.length
 | [],l2,_,_=>?aX
 | x::l1,l2,h,hs=>by
   rw[qg4]at h;have hx:=hs x ?aY
   have:=eK l1 (l2.erase x) h.2 λy hy=>by
    have ne:y≠x:=λz=>h.1 (z▸hy);exact(List.mem_erase_of_ne ne).mpr (hs y (qb6 _ hy))
   have e:=List.length_erase_of_mem hx;have:0<l2.length:=List.length_pos_of_mem hx;rw[qd6];omega
def gK[?a1H](h:∀k,?iW=?dB ns k):?CU:=by
 have sub:∀{as bs:Ms},nd as->(∀k,?dB as k=?dB bs k)->∀x∈as.map (·.1),x∈bs.map (·.1):=λ{as bs} ha hh x hx=>by
  let ?wK:=?b8 hx;have e:=E5 ha hp;rw[hh]at e;exact qj7 (f:=(·.1)) ?AX
 have l1:=eK _ _ h1 (sub h1 h);have l2:=eK _ _ h2 (sub h2 λk=>(h k).symm);rw[qa4,qa4]at l1 l2;unfold sameC;rw[qb7];apply#[?o1,qd3.mpr λp hp=>qf2 ?_];rw[←h];exact E5 h1 hp
def NS[?a1H](z1:?q0)(z2:nz ns)(h:∀k,?a2=Au ns k):?CU :=
 gK h1 h2 λk=>by rw[HG z1,HG z2,h]
def Z1[?aT]:sameC ms ms=true:=gK h h ?IW
def WQ[?aT](k:Int):nd (?eK):=by
 unfold nd Jd at *;exact ?M5
def WM[?nH](k:Int):nz (?eK):=λp hp=>h p ?DP
def Za[?v9]:?SD↔k∈?aD (·.1):=by
 rw[qq7,qd0];constructor
 . ext a0L
 . ext a0L
def ED[?aT](k v:Int):nd ?jD:=by
 unfold nd putI at *;split
 . rw[qk5]
   have e:((λp:?b2=>p.1) ∘ λp:?b2=>?CI)=(·.1):=by
    funext p
    simp only[Function.comp];split<;>rfl
   rw[e];exact h
 . rename_i hn
   rw[Za]at hn;rw[qb4,qt2];apply#[h,?gS,λa ha b hb e=>?_];have:b=k:=by simpa using hb
   exact hn (by rw[←this,←e];exact ha)
def MA[?v7][?vA](hp:p∈?mU):p∈ms\/p=?oE:=by
 unfold putI at hp;split at hp
 . let ?VB:=?rV;by_cases z:q.1=k
   . rw[?bM]at e;right;rw[←e,z]
   . rw[?bN]at e;left;rw[←e];exact hq
 . ext FH
   . exact ?h h
   . exact ?m (?uM)
def EJ(ms:Ms)(k v:Int):?a2K ?mU ?J7:=by
 unfold putI;split
 . rw[qa4];omega
 . rw[qc6];simp
def sS(ms:Ms)(k:Int):?a2K ?eK ms.length:=qi0 ..
def rV[?nH]{k v:Int}(hv:v≠0):nz ?jD:=λp hp=>by
 rcases MA hp with q | q
 . exact h p q
 . rw[q];exact hv
def jT[?aT](k n:Int):nd ?lP:=by unfold Jo;split;exact WQ h k;exact ED h k _
def RV[?nH](k n:Int):nz ?lP:=by
 unfold Jo;split
 . exact WM h k
 . rename_i q;exact rV h q
def EK(ms:Ms)(k n:Int):?a2K ?zE ?J7:=by
 unfold Jo;split
 . have:=sS ms k;omega
 . exact EJ ..
def mJ(ms:Ms)(k n j:Int):Au ?lP j=if j=k then ?k6+n else ?k6:=by
 unfold Jo;split
 . rename_i q
   unfold Au at *;rw[jX];by_cases e:j=k
   . subst e;ext cD
   . simp[e]
 . unfold Au at *;rw[cE];by_cases e:j=k
   . subst e;simp
   . simp[e]
def DU:∀(ns ms:Ms),?bD->?q0->?m4->nd ?dW/\nz ?dW/\?IS/\∀j,Au ?dW j=?k6+Au ns j
 | [],ms,h1,h2,_=>#[h1,h2,?MZ,λj=>by simp[Em,Au,lookI]]
 | p::ns,ms,h1,h2,h3=>by
   unfold nd at h3;rw[qc8,qg4]at h3;let#[r1,r2,r3,r4]:=DU ns (Jo ms p.1 p.2) (jT h1 _ _) (RV h2 _ _) h3.2;apply#[r1,r2,?_,λj=>?_]
   . have:=?TA;ext a0I
   . show Au (?xB) j=_;rw[r4,mJ,Ds];by_cases e:j=p.1
     . have:=E7 h3.1;subst e;simp[this]
     . have e':¬p.1=j:=?a5F e;simp[e,e']
def Az4[?aT]:nd ?lY:=by
 unfold nd Dh at *;exact ?M5
def kF[?aT](k:Int):?wY=?a2:=by
 induction ms with
 | nil=>rfl
 | cons p ms ih =>
   ext jJ;unfold Dh;rw[qm2,Ds];by_cases e:p.2=0
   . rw[?j ?mV];show ?wY=_;rw[ih h.2];by_cases q:?dA
     . rw[?fH,e,←q,E7 h.1]
     . rw[?d5]
   . rw[?o ?mV,Ds];show(if ?dA then p.2 else ?wY)=_;rw[ih h.2]
abbrev UY(ms:Ms):Prop:=∀p∈ms,?fB/\p.1<40
def JS[?aT](n:Int):nd (?a6G ?iY):=by
 unfold nd at *;rw[qk5];exact h
def HJ:∀(ns ms:Ms),?IS
 | [],ms=>?MZ
 | p::ns,ms=>by
   have h1:=HJ ns (Jo ms p.1 p.2);have h2:=?TA;ext a0I
def nY{ms ns:Ms}{i:Nat}[?jN](h:ns[i]?=?f9):Em ms ?t2=Jo (Em ms (ns.take i)) q.1 q.2:=by
 unfold Em;rw[qn0,h,qn1];rfl
def qQ[?aT]{i:Nat}[?jN](hq:ms[i]?=?f9):q.1 ∉ ?S2 (·.1):=by
 intro hm;let ?QC:=?nQ;let ?pF:=List.mem_take_iff_getElem.mp hp;have hij:j<i:=O9m
 have hi:?BU:=?DQ;unfold nd List.Nodup at h;rw[qt1,qn7]at h;have:=h j i O9m hi hij;rw[?k0]at hq;have hq':=qa8 hq;exact ?a0 (by rw[ej,hq',e])
def CV{ms:Ms}{i:Nat}[?jN](hq:ms[i]?=?f9):Dh (ms.take ?H)=if ?pQ then ?uC else ?uC++[q]:=by
 unfold Dh;rw[qn0,hq,qp2];by_cases e:?pQ<;>simp[e]
def XM[?v9](h:k ∉ ?aD (·.1)):k ∉ (?qE).map (·.1):=λhm=>by
 let ?QC:=?nQ;exact h (?rL #[p,?DP,e])
def MB(ms:Ms):?a2K ?qE ms.length:=qi0 ..
section
variable{H H1:Hp}{a:Addr}[?v7]
def Vl(rd:?kE):DGet H a (?cH) ((?iW).map ?X):=?h #[?b5,?tU,rd,rfl,(kZ ms k).symm]
def Vm(rd:?kE)(h:?iW=?gI):DGet H a (?cH) (?d (?o5)):=?h #[?b5,?tU,rd,rfl,by rw[kZ,h];rfl]
def Sc(h:H a=?s0)(hl:?HC):An0 H a (?cH) (?o5) (?a3G a (.dK (cK ?jD))):=by
 rw[←Al2];exact ?h #[?b5,?tU,h,rfl,by unfold cK;rw[qa4];exact ?dT hl,rfl]
def Ma{i:Nat}{kk:Key}{x:V}(h:(?b5)[i]?=?d (kk,x)):∃p:?b2,ms[i]?=?eW/\kk=?h p.1/\x=?e p.2:=by
 unfold cK at h;rw[qb0]at h;cases e:ms[i]? with
 | none=>rw[e]at h;cases h
 | some p =>
   rw[e]at h;have:=qa8 h;simp only[Prod.mk.injEq]at this;exact#[p,rfl,this.1.symm,this.2.symm]
def Kn:?a4D ?b5 ms.length:=by unfold cK;rw[qa4]
def ZX{o:HO}(h:H a=?dU):?a3G a o=H:=by
 funext b
 by_cases e:b=a
 . rw[e,Ab,h]
 . rw[Al e]
def y6{x:HO}[?eG](h:(?a3G a x) D=none):?b6/\D≠a:=by
 have n:D≠a:=λz=>by rw[z,Ab]at h;cases h
 rw[Al n]at h;exact#[h,n]
def lT{o:HO}{b:Addr}(s:?vF)(h:Rd H b o):Rd H1 b o:=by
 rcases h with h|⟨q,h⟩
 . exact ?h (s _ _ h)
 . exact ?m #[q,s _ _ h]
universe e9
def put_new[?v7](h:k ∉ ?aD (·.1)):?mU=ms++[?oE]:=by
 unfold putI;rw[?j (λz=>h (Za.mp z))]
abbrev jS(H:Hp)(ms:Ms)(Q:V->?aL):Prop:=∀[?v4],?b6->?Z->?dK=?s0->?dD
section
variable[?i]
abbrev Rs[?b0]:Sp:=λvs H Q _=>Tb λ ?e0 ?cW (k n:Int)=>By (vs=[?N,?cH,?e2]) ?hX (?HC) (Q ?dQ (?a3G a (.dK (cK ?lP))))
abbrev Y1[?b0]:Sp:=λvs H Q _=>Tb λ ?bE ?C8=>Hz ?f0 (?kE) (?a6U ns) ?gT (ns.length<=1000) (jS H ?dW Q)
abbrev Uo[?b0]:Sp:=λvs H Q _=>Nl λ ?cY ?e0 ?cW=>C9 (vs=[?e2,?N]) ?hX ?gT ((∀p∈ms,?cQ n p.2)) (jS H ?mZ Q)
abbrev FZ[?b0]:Sp:=λvs H Q _=>Tb λ ?bE ?C8=>Nm ?f0 ?hX (?a4V H) (a≠b) ?gT ((∀p∈ms,?cQ p.2 (?KU))) (?a33 (?e (wI ms ns)))
universe e9
universe Hb
namespace Hb
universe Hb
namespace Hb
open PySem L2
def J7{α:Type}{l:?k1}{i:Nat}{d:α}:l.getD i d∈l\/l.getD i d=d:=by
 rw[qa1];by_cases h:?MA
 . rw[qa0 h];exact ?h (qe4 h)
 . rw[qh4 ?g];exact ?m rfl
def Rt[?x](h:?rT):?yH:=λx hx=>by
 let#[k,hk]:=qf1 hx;have:=(h k x hk).cnt;omega
section
variable[?Q]{H:Hp}
universe e9
section
variable[?i]
universe e9
universe Hb
namespace L2
open PySem PySem.Spec PyProof.Rows
open AutoSeq1 (wpAny_loadPart')
def pC(t:Addr)(vs:?EE)(n:Nat)(dd:OAddr)(sl:Td):Meets (Builtin.«enumerate.__new__» #[[?uL,?eL],[]]) (λ_ R s=>?OP t=?d { cls:=?mA,dict:=dd,data:=?RY,slots:=sl } ∧
 R (.ok (.ret (?f ?P7))) { s with heap:=(?sD).push ?zC }) :=
 .of_wp λprog w A R s h=>by
  let ?B8:=s;let ?w9:=h;have hsub:=sub_enumerate;have gt:Heap.IsTuple (Shared.heap ?B8) t vs:=#[_,q1,rfl,n,rfl]
  wp_walk using wpAny_loadPart' q1
  apply wpAny_stack_any λst=>?sO;split
  . rename_i c _ _ _ _ _
    cases (c==Value.type ?eU)
    . ext F0
      exact ?yF
    . ext F0
      exact ?yF
  . ext F0
    exact ?yF
section
variable[?n8]{s:Shared}
def kK[?F9]{x old:Value}{Q:?tW}[?EP](gx:?WW)(ne:e≠j)
 (k:∀h',?Z2->?RS->?a2X n->?KK →
   ?a70 (?f ?cE)) :
 ?bJ ?qV A (Builtin.«enumerate.__next__» #[[?f e],[]]) (λfin s'=>∃r,fin=.done (.ret r)/\Q r s') E s:=by
 let ?B8:=s;ext ZR;apply qa6 (Ki gj gt gx λk1 gj1 w1=>?_)
 replace w1:?jF j hp k1:=w1
 have ge1:?a4Z k1 n:=(w1.2 e ne).trans ge;show ?a32 3 ?yG;apply qa6 (qh6 ge1 rfl (x:=?yN n) rfl ?_);show ?a32 4 ?yG;apply qa6 (qh6 ge1 rfl (x:=?bZ) rfl ?_);show ?bJ _ _ (mkInt n>>=_) _ _ ?yG;apply qa6 (wpAny_mkInt ?_);show ?bJ _ _ (?QJ ?dS 3 (?yN ?cX)>>=_) _ _ #[k1,g,d,tk+1,os];apply qa6 (qi5 ge1 ?c3 λk2 ge2 w2=>?_)
 replace w2:?jF e k1 k2:=w2
 replace ge2:?a4Z k2 ?cX:=ge2
 show ?a2D (?QJ ?dS 4 ?bZ>>=_) k2;apply qa6 (qi5 ge2 ?c3 λk3 ge3 w3=>?_)
 replace w3:?jF e k2 k3:=w3
 replace ge3:?a4Z k3 ?cX:=ge3
 show ?a2D (newTuple [?PZ,x]>>=_) k3;apply qa6 (wpAny_newTuple ?_);have ge4:?a4Z (?S8) ?cX:=qa7 _ ge3;generalize Yu:?S8=k4 at ge4;have sz:k3.objs.size=hp.objs.size:=by rw[w3.1,w2.1,w1.1]
 have le:e<hp.objs.size:=qc3 ge;have gt4:k4.get? ?sQ=?d ?IR:=by rw[←Yu,←sz];exact ?B2
 have sz4:k4.objs.size=hp.objs.size+1:=by rw[←Yu,qi2,sz]
 have kp4:∀b o,b≠e->b≠j->hp.get? b=?dU->k4.get? b=?dU:=λb o n1 n2 q=>by
  rw[←Yu];exact qa7 _ (?Y1 b o n1 (?WL b o n1 (w1.extBut b o n2 q)))
 have gj4:k4.IsTupleIter j t ?G:=by
  rw[←Yu];let#[o,q,r]:=(gj1.extBut ?WL ?mN).extBut ?Y1 ?mN;exact#[o,qa7 _ q,r]
 show ?a2D (Builtin.SmallTypes.ownedTupleIsFree ?dS>>=_) k4;rw[sz];clear Yu ge3 w3 ge2 w2 ge1 w1 gj1 sz k3 k2 k1;apply qa6 ?_;unfold Builtin.SmallTypes.ownedTupleIsFree;apply qa6 (qh6 ge4 rfl (x:=?bZ) rfl (?sO));simp only[if_true];apply qa6 (qx2 ?_);apply qa6 (qh6 ge4 rfl (x:=old) rfl ?_);apply qa6 (qi5 ge4 ?c3 λk5 ge5 w5=>?_)
 replace w5:?jF e k4 k5:=w5
 replace ge5:?d3 k5 e j ?cX x:=ge5
 show ?a2D (Builtin.SmallTypes.ownedTupleHandOut ?dS (?f ?sQ)>>=_) k5;apply qa6 ?_;unfold Builtin.SmallTypes.ownedTupleHandOut;apply qa6 (qi5 ge5 ?c3 λk6 ge6 w6=>?_)
 replace w6:?jF e k5 k6:=w6
 replace ge6:?A1 k6 e j ?cX x ?sQ:=ge6
 apply qi5 ge6 ?c3 λk7 ge7 w7=>?_
 replace w7:?jF e k6 k7:=w7
 replace ge7:?A1 k7 e j ?cX x ?sQ:=ge7
 apply qa6 (wpAny_letGo (qb9 #[_,rfl,k k7 ge7 ?_ ?_ ?_ ?_]))
 . exact((gj4.extBut ?CA ?mN).extBut ?BR ?mN).extBut ?AJ ?mN
 . exact ?AJ _ _ (qm6 le) (?BR _ _ (qm6 le) (?CA _ _ (qm6 le) gt4))
 . rw[w7.1,w6.1,w5.1,sz4]
 . exact λb o n1 n2 q=>?AJ b o n1 (?BR b o n1 (?CA b o n1 (kp4 b o n1 n2 q)))
def Yo[?F9]{x old:Value}[?a1G][?EP](gx:?WW)(ne:e≠j)
 (k:∀h',?Z2->?RS->?a2X n->?KK →
   ?a70 (?a3V ?cE)):?VN:=by
 ext a0K
 unfold pyNext;exact qa6 (?a1Y (kK ge gj gt gx ne λh' a b c d q=>qb9 (k h' a b c d q)))
def i5[?F9]{old:Value}[?a1G](hn:A.handled=none)[?EP](gx:vs[n]?=none)
 (k:∀h',Heap.ExtBut j ?dP h'->Q ?A ?LX):?VN:=by
 ext a0K
 unfold pyNext;apply qa6 (?a1Y ?_);ext ZR;apply qa6 (Q3 hn gj gt gx λh' x he hx=>?_);let ?G2:=hx;exact qa6 (qv7 (T:="StopIteration") (b:=true) ?G2 isSubtype_stop (qb9 (k _ he)))
def KY{t:Addr}{vs:?EE}{Q:?tW}(gt:?Z8)
 (k:∀h',?d3 h' (?mH) ?cE 0 ?bZ->?H3 ?cE t 0->h'.objs.size=s.heap.objs.size+2->(∀b o,?AL)->Q (?f (?mH)) ?LX) :
 ?bJ ?qV A (call (?uL) [?eL]) Q E s:=by
 let#[#[c,dd,dt,sl],q,qc,n,qd]:=gt
 replace qc:c=?mA:=qc
 replace qd:dt=?RY:=qd
 subst qc qd;apply callType_new F.called_enumerate ?bA (F.typeCall_enumerate_1 _) (F.newCall_enumerate_1 _) (λobj=>F.args_object_init_2 obj _) F.entry_enumerate_new (pC t vs n dd sl) #[q,?_];have z1:?P7=?mH:=qi2 ..;show _/\_;rw[z1]
 have ge:?d3 ((?sD).push ?zC) (?mH) ?cE 0 ?bZ:=by
  have:=qc4 (?sD) (o:=?zC) rfl;rw[z1]at this;exact this
 exact#[?MP,k _ ge #[_,qa7 _ (?B2),rfl,rfl] (by rw[qi2,z1]) λb o x=>qa7 _ (qa7 _ x)]
universe e9
abbrev IteT[?i](a:Addr):It:=IteG (SqT K) a
def IZ[?nG][?Q][?a1E](a e it:Addr)(hne:e≠it):Xn P w K (.Tuple es x1 tpos) (?kU) [e,it] e (λi h=>?a59 ?cJ i) where
 mem:=?jU
 obj:=λi h ?sX=>y9 h1 (tup_cell h2)
 keep:=λi h h' ?sX k=>#[#[old,k e ?aY _ h1],h2.at λo z=>k it (qb6 _ ?aY) o z]
 item:=by
  ext ZT;let#[xs,x,hq,hx]:=hg;ext FD;let ?UX:=?BK hx;exact Yo h1 h2 (?a4F a) (x:=u) (by simpa using hu) hne λh' hout oS htup hsz hk=>cU (i:=i) (Y:=(IteT X.K a).yld i H) (T:=λh=>?a59 ?BV ?H) hne I hf h1 (tup_cell h2) ru hout htup hk (λh3 S4 he=>#[he,oS.at λo z=>(S4.2 it hne.symm).trans z]) λhn=>#[_,x,hn,rfl,rfl,λys hy=>by rw[I.tuple_inj hy hq];exact hx]
 done:=by
  ext ZT;let#[xs,hq,hx]:=hg;ext FD;let#[f0,f1,f2,f3,f4,f5]:=hf it ?c3;have hl:=rv.length;exact i5 (?KN) h1 h2 (?a4F a) ?gE λh' eb=>#[rfl,I.turned (t':=s.toks) (λb o hb z=>eb b o hb z) f0 f1 f3 f4 f5]
 self:=λ_ _ _ _ _ st h=>by
  let ?sX:=st;exact qu6 h1 h
inductive MZ[?i](R:It->?aL)[?nN](H1:Hp):Prop
 | mk:∀a,?pR->((∃xs,?MW))->(R (?kU) H1)->?I9
abbrev Ah2[?i](ta:TA):TI:=λσ H R=>ta σ H λvs H1=>?I9
def Xk:?GG ?eU=?d (?uL):=?z
def RH{X:Cx}[?Q][?a1E]{a:Expr}{ta:TA}{p pos:Pos}(hg:Gl X ?eU)(hm:X.mg ?eU=none)(ha:PA X [a] ta)[?FX](hs:starEach [a] X.env=[(?qB,eval a X.env)]:=by rfl):PI X (.Tuple es x1 tpos) (.Call (.Name ?eU p) [a] [] pos) (Ah2 K ta):=by
 subst hK;intro Ae s σ H R I h;apply Call_ (M7 I hg hm Xk (qh1 (Dz (ha pos Ae s σ H _ I h) λus s1 _z=>?_) hs rfl));let#[vs,H1,I1,r1,q1]:=_z;let#[l,e,#[xs,hq],q]:=q1;subst e;cases r1 with
 | cons r rr =>
   cases rr;cases r;let ?IA:=I1.tuple hq;apply KY (show s1.heap.IsTuple l ?n2 from pl) λh' hen hit hsz hk=>?_;apply qu6 hen #[?Z4,[?Z4,s1.heap.objs.size],_,_,H1,rfl,I1.kept (t':=s1.toks) hk,IZ l _ _ (qu2 _),#[#[_,hen],hit],I1.fp2,q]
section
variable{g:TG}{tc:TT}{te:TE}[?eG]{Q:?aL}{τ:St}{H:Hp}
def OZ[?Q][?jL]{g:TG}{tb:TS}{D:Ends}{σ:St}{H:Hp}(Pv:?jB)(h0:Pv 0 σ H)(hl:∀i σ H,i<=xs.length->?J1->?rB)
 (hs:∀i x σ H p,xs[i]?=?d x->?J1->?L0->g (?aW) σ (?a3G p (?D [?bI,x])) λσ2 H2=>tb { D with nx:=Pv ?H,ct:=Pv ?H,bk:=D.nx } σ2 H2) (hd:∀σ H,Pv ?d9 σ H->?GV) :
 ∃W:Nat->?jB,(∃m,W 0 m σ H)/\∀i m σ H,W i m σ H →
   ((?kU).stop i H/\?GV)\/((?kU).go i H/\∃N:?tA,(∀σ' H',N σ' H'->∃m',m'<m/\W ?H m' σ' H')/\∀x H',(?kU).yld i H x H'->g x σ H' λσ2 H2=>tb { D with nx:=N,ct:=N,bk:=D.nx } σ2 H2):=CP Pv h0 hl hs hd
universe e9
universe L2
namespace Hb
abbrev J5[?jO](f:Int):?t
 | 0=>0
 | i+1=>if ?hL=f then ?SP+1-?h5 else ?SP
abbrev Ry[?jO](f:Int):Int:=J5 fs f ?yX
abbrev ind(x e:Int):Int:=if x=e then 1 else 0
def wL(e:Int):Ry [] e=0:=rfl
def lW(x y e:Int):?CB=?MH:=by
 show(if y=e then(if x=e then ?dL+1-2*((?sK:Int)%2) else 0)+1-2*(?M7%2) else(if x=e then ?dL+1-2*((?sK:Int)%2) else 0))=_;unfold ind;split<;>split<;>simp_all
def LV(x y z e:Int):Ry [x,y,z] e=?MH+ind z e:=by
 show(if z=e then ?CB+1-2*(((2:Nat):Int)%2) else ?CB)=_;rw[lW];unfold ind;split<;>simp_all<;>omega
def WW[?nL](h:l.length=2):∃a b,l=[a,b]:=by
 match l,h with
 | [a,b],_=>exact ?U4
def SS[?nL](h:l.length=3):∃a b c,l=[a,b,c]:=by
 match l,h with
 | [a,b,c],_=>exact ?W2
def Bn5[?nL](h:l.length=4):∃a b c d,l=?GL:=by
 match l,h with
 | ?GL,_=>exact ?J6
abbrev sg(i:Nat):Int:=1-?h5
def At4[?x][?aN]{k:Nat}{q:?y}(hq:xs[k]?=?f9)(e:Int):?c (λi=>sg i*Ry (?M (q.getD i 0).toNat []) e) q.length=0:=by
 have F:=hs k q hq
 have face:∀f∈q,∃p,?y4=p/\(xs.take k)[f.toNat]?=?eW/\lev p+1=lev q/\(p.length=0\/p.length=2\/p.length=3\/p.length=4):=by
  intro f hf;let#[p,hp,hl]:=F.bel f hf
  have hp2:?WQ=?eW:=by
   rw[qm5]at hp;split at hp
   . exact hp
   . cases hp
  exact#[p,by rw[qa1,hp2];rfl,hp,hl,(hs _ _ hp2).cnt]
 rcases F.cnt with h | h | h | h
 . rw[h];rfl
 . let ?U4:=WW h;let#[A,ha,_,la,ca]:=?MX;let#[B,hb,_,lb,cb]:=?MR;have za:A=[]:=by ext FI;refine List.eq_nil_of_length_eq_zero;omega
   have zb:B=[]:=by ext FJ;refine List.eq_nil_of_length_eq_zero;omega
   subst za zb;show ?a1V 1=0;rw[ha,hb,wL];simp
 . let ?W2:=SS h;ext ZL;let#[a0,a1,rfl]:=WW (l:=A) (by ext FI;omega);let#[b0,b1,rfl]:=WW (l:=B) (by ext FJ;omega);let#[c0,c1,rfl]:=?a3D WW;ext ZG;simp at e1 e2 e3;subst e1 e2 e3;show ?a76 e=0;rw[ha,hb,hc,lW,lW,lW];simp[sg];omega
 . let ?J6:=Bn5 h;ext ZL;let#[D,hd,gd,ld,cd]:=?c1 d ?c3;let#[a0,a1,a2,rfl]:=SS (l:=A) (by ext FI;omega);let#[b0,b1,b2,rfl]:=SS (l:=B) (by ext FJ;omega);let#[c0,c1,c2,rfl]:=?a3D SS;let#[d0,d1,d2,rfl]:=SS (l:=D) (by unfold lev at ld;simp at ld;omega);ext ZG;have e4:=G 0 3 d a _ _ ?bA rfl rfl gd ga;have e5:=G 1 3 d b _ _ ?bA rfl rfl gd gb;have e6:=G 2 3 d c _ _ ?bA rfl rfl gd gc;simp at e1 e2 e3 e4 e5 e6;subst e1 e2 e3 e4 e5 e6;show ?a76 e+sg 3*Ry (?a3K d.toNat) e=0;rw[ha,hb,hc,hd,LV,LV,LV,LV];simp[sg];omega
universe Hb
namespace Hb
open PySem L2
abbrev AO(n:Int)(i:Nat):Int:=if ?pV=0 then n else -n
abbrev Ih(ms:Ms)[?eB]:?lB
 | 0=>ms
 | i+1=>?wQ
abbrev lD(ms:Ms)[?eB]:Ms:=Ih ms fs n ?yX
def cO(ms:Ms)[?jO](n k:Int):∀i,Au ?fS k=?a2+?u6*n
 | 0=>by simp[Ih,J5]
 | i+1=>by
   show Au (?wQ) k=_;rw[mJ,cO ms fs n k i];show _=?a2+(if ?hL=k then ?O4 else ?u6)*n;by_cases h:k=?hL
   . rw[?d2,?vJ]
     have e:?hK=(1-?h5)*n:=by
      unfold AO;have:?IK:=O9m
      rcases this with z | z
      . rw[?bM,z];simp
      . rw[?aE,z];omega
     rw[e,show ?O4=?u6+(1-?h5) by omega,qo5];omega
   . rw[?bO,?IJ]
def i6[?aT][?eB]:∀i,nd ?fS
 | 0=>h
 | i+1=>jT (i6 h fs n i) _ _
def gY[?nH][?eB]:∀i,nz ?fS
 | 0=>h
 | i+1=>RV (gY h fs n i) _ _
def W2(ms:Ms)[?eB]:∀i,?a2K ?oP ?X0
 | 0=>?b4
 | i+1=>by
   have h1:=W2 ms fs n i;have h2:=EK ?fS ?l5 (?hK);show ?a3C Jo;omega
abbrev Jc[?cB](k p n:Int):Bool:=D5 xs (?qX) k&&?k (¬n=0)
abbrev chainB[?W](ms:Ms):Bool:=ms.all λp=>Jc xs k p.1 p.2
abbrev Mb[?dI]:?lB
 | 0=>[]
 | i+1=>lD ?eT ?pM ?rO
abbrev B7[?dI]:Ms:=Mb xs ms ?lT
def cG[?x][?jK](ms:Ms):∀i,(?uE).length<=4*i
 | 0=>?b4
 | i+1=>by
   have h1:=cG h4 ms i;show ?a3C lD;unfold lD;have h2:=W2 ?eT ?pM ?rO ?lC
   have h3:?lC<=4:=by
    rcases J7 (l:=xs) (i:=?I0) (d:=[]) with z | z
    . exact h4 _ z
    . rw[z];ext dJ
   omega
def GO[?x]{p l:Int}(h:D5 xs (?qX) l=true):?PD:=by
 have h':(?k (0<=p)&&?k (?rQ)&&?k (De ?oJ=l))=true:=h;rw[qb7,qb7]at h';exact#[qc2 h'.1.1,qc2 h'.1.2]
abbrev Oh(b:Addr)(H H1:Hp):Prop:=?a5R b
section
variable[?Q]{H H1:Hp}{b:Addr}{m:?a58 Key}
def SqL.x[?uT][?jL](h:?KW):SqL K H1 a xs:=by
 ext uV
 . ext a0C
 . ext a06
 . exact ?g9
def SqT.x[?uT][?jL](h:?rB):?MW:=by
 ext uV
 . ext a0C
 . ext a06
 . exact ?g9
mutual
def Rep.x[?uT]{v:V}{d:L2.D}(h:?KX):Rep K H1 v d:=by
 cases d with
 | non=>exact h
 | bl b=>exact h
 | int i=>exact h
 | str x=>exact h
 | tup ds =>
   let ?JX:=h;exact#[a,vs,e,SqT.x s hb q,?QH]
 | lst ds =>
   let ?JX:=h;exact#[a,vs,e,SqL.x s hb q,?QH]
def Reps.x[?uT][?aJ]{ds:?a5 L2.D}(h:?eP K H vs ds):?eP K H1 vs ds:=by
 cases ds with
 | nil=>exact h
 | cons d r =>
   let#[v,q,e,h1,h2]:=h;exact#[v,q,e,Rep.x s hb h1,Reps.x s hb h2]
end
universe e9
section
variable[?i]
abbrev Zp:Sp:=λvs H Q _=>Ye λ ?e0 ?a3 (k p n:Int)=>Ev (vs=[?N,?cH,?qX,?e2]) ?aP (Q (.bl (Jc xs k p n)) H)
abbrev Qc:Sp:=λvs H Q _=>Ye (?a7A ?gT (?a33 (.bl (?q4 xs k ms))))
abbrev Gp:Sp:=λvs H Q _=>Ye λ ?bE ?a3 (n:Nat) ?cW=>Hz (vs=[?N,?c0,?e ?cY]) ?aP ?l7 ?gT (n<=100) (?a33 (.bl ((?oM).any λ ?CN=>?NV)))
abbrev Us:Sp:=λvs H Q _=>Ye λ ?e0 ?eS ?cW (fs:?y) ?cY=>C9 (vs=[?N,v,?e2]) ?hX (TI K H v fs) (?a7B fs.length<=100000) (∀H',Oh a H H'->H' a=?a1R (lD ms fs n)->?b7)
abbrev Wg:Sp:=λvs H Q _=>Tb λ ?bE ?a3 ?cW=>Nm ?f0 ?aP ?l7 ?gT ?wE ((∃k:Nat,k<4/\?NV=true)) (jS H ?gM Q)
universe e9
universe Hb
namespace Hb
open PySem L2
abbrev wF[?I](ms:Ms):Int:=(?aD λp=>?EK).sum
def Tf[?I]:?a1Z []=0:=rfl
def Dj[?I](p:?b2)(ms:Ms):?a1Z ?tM=?EK+?aK:=by
 unfold wF;rw[qc8,qk4]
def Gd(k:Int):?q5=0:=rfl
def LM[?I](k:Int):∀{ms:Ms},?bD->?a1Z (?eK)=?aK-?a2*φ k
 | [],_=>by show ?dL=0-?q5*φ k;rw[Gd];simp
 | ?g0,h=>by
   ext jJ;have ih:=LM φ k (ms:=ms) h.2;rw[Ds,Dj];by_cases e:?dA
   . rw[?b1];have hd:?VE=?eK:=by unfold Jd;rw[qu0 ?mV]
     have hg:?a2=0:=E7 (by rw[←e];exact h.1);rw[hd,ih,hg,←e,qf8];omega
   . rw[?cI];have hd:?VE=p::?eK:=by unfold Jd;rw[qt9 ?mV]
     rw[hd,Dj,ih];omega
def Wa[?I](as bs:Ms):?a1Z (as++bs)=?a1Z as+?a1Z bs:=by
 unfold wF;rw[qb4,qv2]
def QL[?I](k v:Int):∀{ms:Ms},?bD->k∈?aD (·.1)->?a1Z (?aD λp=>?CI)=?aK+(v-?a2)*φ k
 | [],_,h=>by simp at h
 | ?g0,h,hk=>by
   ext jJ;rw[qc8,Dj,Dj,Ds];by_cases e:?dA
   . rw[?b1,?b1]
     have same:(?aD λp=>?CI)=ms:=by
      conv=>rhs;rw[←?IE ms]
      refine qo2;intro q hq;have:¬q.1=k:=λz=>h.1 (by rw[e,←z];exact qj7 (f:=(·.1)) hq);rw[?y2];rfl
     rw[same,e,Int.sub_mul];show v*φ k+?aK=_;omega
   . rw[?cI,?cI]
     have hk2:k∈?aD (·.1):=by
      rw[qc8,qd9]at hk;rcases hk with z | z
      . exact ?aA ?d7 e
      . exact z
     rw[QL φ k v h.2 hk2];omega
def zX[?I][?aT](k v:Int):?a1Z ?jD=?aK+(v-?a2)*φ k:=by
 by_cases hk:k∈?aD (·.1)
 . unfold putI;rw[?o (Za.mpr hk),QL φ k v h hk]
 . rw[put_new hk,Wa,E7 hk,Dj,Tf];simp
def QM[?I][?aT](k n:Int):?a1Z ?lP=?aK+n*φ k:=by
 unfold Jo;split
 . rename_i e
   rw[LM φ k h];have:?a2=-n:=O9m
   rw[this,qo4];omega
 . rw[zX φ h,show ?iP-?a2=n by omega]
def fV[?I][?aT][?eB]:∀i,?a1Z ?fS=?aK+n*?c (λj=>sg j*φ ?iB) i
 | 0=>by show ?aK=?aK+n*0;simp
 | i+1=>by
   show ?a1Z (?wQ)=?aK+n*(?E5+sg i*φ ?l5);rw[QM φ (i6 h fs n i),fV φ h fs n i,Int.mul_add]
   have e:?hK=n*sg i:=by
    unfold AO sg;have:?IK:=O9m
    rcases this with z | z
    . rw[?bM,z];simp
    . rw[?aE,z];omega
   rw[e,qe0];omega
def J6[?dI]:∀i,nd ?eT
 | 0=>qv8
 | i+1=>?a6H i6 J6
def g9[?dI]:∀i,nz ?eT
 | 0=>?JS
 | i+1=>?a6H gY g9
abbrev face[?cB][?I](p:Int):Int:=?c (λj=>sg j*φ (?a7G ?hT j)) ?oJ
def FU[?I][?dI]:∀i,?BM->?a1Z ?eT=wF (?c1 xs φ) (ms.take i)
 | 0,_=>rfl
 | i+1,h=>by
   show ?a1Z (lD ?eT _ _)=_;unfold lD;rw[fV φ (J6 xs ms i),FU φ xs ms i ?g,qn0,?e3,Wa];ext EQ
   rw[e];show _+_=_+wF _ [?oQ];rw[Dj,Tf];unfold face;omega
def DL[?I][?dI]:?a1Z ?gM=wF (?c1 xs φ) ms:=by
 unfold B7;rw[FU φ xs ms _ ?u,qd2]
abbrev ML(e k:Int):Int:=if k=e then 1 else 0
def BS(e:Int):∀{ms:Ms},?bD->wF ?B0 ms=Au ms e
 | [],_=>rfl
 | ?g0,h=>by
   ext jJ;rw[Dj,Ds,BS e h.2];unfold ML;by_cases z:p.1=e
   . rw[?bM,?bM,E7 (by rw[←z];exact h.1)];omega
   . rw[?bN,?bN];omega
def mL[?cB](e p:Int):?c1 xs ?B0 p=?h4:=by
 have:∀[?jO] (i:Nat),?c (λj=>sg j*ML e ?iB) i=?kY:=by
  intro fs i
  induction i with
  | zero=>rfl
  | succ i ih =>
    show ?E5+sg i*ML e ?l5=?xM
    rw[ih];unfold ML sg;ext h1
 exact ?a0 _ _
def E6[?x]{ms:Ms}(e:Int):?MJ=wF (λp=>?h4) ms:=by
 have h:=BS e (J6 xs ms ?lT);change wF ?B0 ?gM=?MJ at h;rw[←h];rw[DL];unfold wF
 congr 1
 refine qo2;intro p _;rw[mL]
def DJ{φ:?kV}:∀{ms:Ms},(∀p∈ms,?hQ=0)->?aK=0
 | [],_=>rfl
 | ?g0,h=>by
   rw[Dj,h p ?aY,DJ (?a5S h)];simp
def CZ[?x][?aN]{ms:Ms}(hin:∀p∈ms,?fB/\?E7):?PL=[]:=by
 have z:∀e,Au (?PL) e=0:=by
  intro e;rw[E6,DL];apply DJ ?bY;let ?TF:=hin p hp
  have hq:xs[?l6]?=?d (?kF):=by
   ext eA;rfl
  unfold face;exact At4 hs hq e
 have hn:=J6 xs (B7 xs ms) (B7 xs ms).length;have hz:=g9 xs (B7 xs ms) (B7 xs ms).length;change nd (B7 xs (B7 xs ms)) at hn;change nz (B7 xs (B7 xs ms)) at hz;cases e:B7 xs (B7 xs ms) with
 | nil=>rfl
 | cons p r =>
   rw[e]at hn hz;have h1:=E5 hn (qb3 (a:=p) (l:=r));have h2:=z p.1;rw[e]at h2;unfold Au at h2;rw[h1]at h2;exact ?aA h2 (hz p ?aY)
abbrev A04(n:Nat)(k:Int):Bool:=?k (?cY=k+1) || (?k (k=0)&&?k (n=0))
abbrev spN[?W]:Nat->?y
 | 0=>[]
 | i+1=>if A04 (?vL).length k=true then ?QU++[?cJ] else ?QU
abbrev spots[?W]:?y:=spN xs k ?d9
def IX[?I]:∀ms:Ms,?a1Z ?lY=?aK
 | []=>rfl
 | ?g0=>by
   have ih:=IX φ ms;unfold Dh at ih ⊢;by_cases z:p.2=0
   . rw[qu0 (?D3),ih,Dj,z];simp
   . rw[qt9 (?D3),Dj,Dj,ih]
structure Part[?cB](need:Nat)(p:?y):Prop where
 ok:∀f∈p,0<=f/\f<?g1/\?HE=need
 agr:0<need->∀i j:Nat,i<j->?QP->?a2Q 0
section
variable[?i]
universe e9
def HE{ms:Ms}{k n:Int}[?jN](h:q∈?zE):q∈ms\/q=(k,?iP):=by
 unfold Jo at h;split at h
 . exact ?h ?MK
 . exact MA h
def m8{ms:Ms}[?vB]{n:Int}:∀{i:Nat},i<=fs.length->∀q∈?oP,q.1∈?aD (·.1)\/q.1∈fs
 | 0,_,q,h=>?h (qj7 (f:=(·.1)) h)
 | i+1,hi,q,h=>by
   rcases HE h with z | z
   . exact m8 O9m q z
   . subst z;apply ?m ?_;show ?hL∈fs;ext eA;exact ?gP
def CH[?x]{ms:Ms}:∀{i:Nat},?BM->∀q∈?uE,∃p∈ms,q.1∈?kF
 | 0,_,q,h=>?s8
 | i+1,hi,q,h=>by
   ext EQ
   rcases m8 ?u q h with z | z
   . let#[r,hr,er]:=?b8 z;let#[p,hp,hq]:=CH O9m r hr;exact#[p,hp,by rw[←er];exact hq]
   . exact#[?oQ,?gP,by rw[←e];exact z]
def IM{ms:Ms}[?vB]{n:Int}{M:Nat}(hm:∀p∈ms,?LH<=M):∀(i:Nat),∀q∈?oP,?JB<=M+?EM
 | 0,q,h=>by have:=hm q h;simp;exact this
 | i+1,q,h=>by
   have ih:=IM hm i (fs:=fs) (n:=n);have e:?H*n.natAbs=?EM+n.natAbs:=Nat.succ_mul ..;rcases HE h with z | z
   . have:=ih q z;omega
   . subst z;have hs:(?hK).natAbs=n.natAbs:=by unfold AO;ext h1
     have hg:(?UW).natAbs<=M+?EM:=by
      unfold Au;cases e2:lookI (Ih ms fs n i) (fs.getD i 0) with
      | none=>simp
      | some v=>exact ih _ (K5 e2)
     show(?UW+?hK).natAbs<=_;apply qa5 (qf3 _ _) ?_;rw[hs,e,←qr2];exact qq8 hg _
def iM[?x][?jK]{ms:Ms}{B:Nat}(hb:∀p∈ms,?LH<=B):∀{i:Nat},?BM->∀q∈?uE,?JB<=i*(4*B)
 | 0,_,q,h=>?s8
 | i+1,hi,q,h=>by
   have ih:=iM h4 hb (i:=i) O9m;ext EQ
   have:=IM ih _ q h;rw[e]at this;have hB:=hb ?oQ (?gP)
   have hl:?K9<=4:=by
    rcases J7 (l:=xs) (i:=?XZ) (d:=[]) with z | z
    . exact h4 _ z
    . rw[z];ext dJ
   have h2:?K9*ms[i].2.natAbs<=4*B:=qf4 hl hB;have e3:?H*(4*B)=i*(4*B)+4*B:=Nat.succ_mul ..;omega
def Jn[?x][?aN]{k:Int}{ms:Ms}(hm:∀p∈ms,?fB/\?E7/\?a5V ?kF=k):?q4 xs ?hC ?gM=true:=by
 apply qd3.mpr ?j9;have hz:q.2≠0:=g9 xs ms _ q hq;let#[p,hp,hf]:=CH ?u q hq;let#[a,b,c]:=hm p hp
 have hx:xs[?l6]?=?d (?kF):=by
  ext eA;rfl
 have F:=hs _ _ hx;let#[r,hr,hl]:=F.bel q.1 hf;have q0:=F.low q.1 hf
 have hr2:xs[?y7]?=?d r:=by
  rw[qm5]at hr;split at hr
  . exact hr
  . cases hr
 have Cr8:?y7<xs.length:=(?aR hr2).1;have er:?zF=r:=by rw[qa1,hr2];rfl
 have hlr:De ?xT=k-1:=by
  unfold lev at hl;unfold De at c ⊢;have cr:=(hs _ _ hr2).cnt;have cp:=F.cnt;split at c<;>split<;>omega
 unfold Jc;rw[qb7];apply#[?_,by simpa using hz];show(?k (0<=q.1)&&?k (?y0)&&?k (?a5V ?zF=k-1))=true;rw[er,qf2 q0,qf2 (show ?y0 by omega),qf2 hlr];rfl
universe Hb
namespace L2
open PySem PySem.Spec PyProof.Rows
universe L2
namespace Hb
open PySem L2
abbrev U2[?W](n:Nat):?y:=((?oM).filter ?M4).map λ ?o6=>?c5
abbrev C3[?W]:?y:=U2 xs k ?d9
def rG[?n]{n:Nat}(h:?a6V n):?LS=?DB++[?cY]:=by
 unfold U2;rw[qk9,qp2,qb4,qt9 (?uM)];rfl
def VY[?n]{n:Nat}(h:¬?a6V n):?LS=?DB:=by
 unfold U2;rw[qk9,qp2,qb4,qu0 (?uM)];simp
def E3[?W](n:Nat):?a2K ?DB n:=by
 unfold U2;rw[qa4];have:=qi0 (?M4) (?oM);ext cT
section
variable[?i]
abbrev Ef:Sp:=λvs H Q _=>Nl λ ?e0 ?cJ ?a3=>By (vs=[?N,?bI]) ?aP (xs.length<=1000) (?a71 ((C3 xs i).map ?X))
universe e9
def belowD_of{i b:Int}(h0:0<=i)(h1:i<b):belowD (?bI) b=true:=by
 show(?k (0<=i)&&?k (i<b))=true;rw[qf2 h0,qf2 h1];rfl
def WU(g:?kV)(sp:?y):?lV g=Ii ?lI (λi=>g (?uA)):=by
 unfold Ii;refine List.ext_getElem
 . simp
 . intro i h1 h2;simp at h1;simp[h1]
def AE[?cB](p e:Int):Au (?r7) e=?h4:=by
 rw[E6];show 1*?h4+0=_;omega
def Cu[?x]{k p:Int}(h:?BC):0<=p/\?rQ/\De ?oJ=k:=by
 unfold C3 U2 at h;let ?C6:=?q7;have h1:=?eJ hj;have h2:=?i1 ?g4;apply#[O9m,O9m,?_];rw[qf9];simpa using h1.2
def OE[?x][?jK](p e:Int):?a5A ?h4 ?xJ:=by
 rw[←AE xs p e];unfold Au;cases h:lookI (B7 xs [(p,1)]) e with
 | none=>decide
 | some v =>
   have hm:=K5 h;have:=iM (B:=1) h4 (ms:=?pW) (λq hq=>by rw[qi9]at hq;subst hq;exact qa2 1) ?u _ hm;show v.natAbs<?xJ;have h2:v.natAbs<=1*(4*1):=this;omega
def Gi[?W]:(?aV).Nodup:=by
 unfold C3 U2;exact List.Pairwise.map _ (λa b h=>O9m) (?RL _ List.nodup_range)
def QI[?jH]:(?xA).map (·.1)=sp:=by
 rw[show(λx:?b2=>x.1)=Prod.fst from rfl,List.map_fst_zip ?g]
def iV[?jH](h:sp.Nodup):nd ?hO:=by
 unfold nd;rw[QI hl];exact h
def IV[?jH]{i:Nat}(hi:?AA):?hO[i]?=?d (?uA,?e1):=by
 rw[qa0 ?gE,List.getElem_zip,qa1,qa1,?k0,?e3];rfl
def GL[?jH](h:sp.Nodup):?lV (Au (Dh ?hO))=ns:=by
 have hn:=iV hl h;refine List.ext_getElem
 . simp[hl]
 . intro i h1 h2;rw[List.getElem_map,kF hn];have hi:?AA:=O9m
   have hz:=IV hl hi;have hm:=qb1 hz;have hg:=?GF;have e1:?uA=sp[i]:=by rw[qa1,?k0];rfl
   have e2:?e1=?gF:=by rw[qa1,qa0 h2];rfl
   rw[e1,e2]at hg;unfold Au;change (?M8).getD 0=?gF;rw[show ?M8=?d ?gF from hg];rfl
def iX[?I][?jH]:∀i,i<=sp.length->?a1Z ((?xA).take i)=?c (λj=>φ (?tJ j 0)*?r4 j 0) i
 | 0,_=>rfl
 | i+1,hi=>by
   rw[qn0,IV hl ?g,Wa,iX φ hl i ?g];show _+(?e1*?H2+0)=?E5+?H2*?e1;rw[qe8 ?oG,qf6]
def iK[?x][?jH](e:Int):?a4B (Dh ?hO) e=?c (λj=>Ry (?M (?tJ j 0).toNat []) e*?r4 j 0) ?lI:=by
 rw[E6,IX];have h:=iX (λp=>?h4) hl ?lI ?u;rw[qj5 ?gE]at h;exact h
def Vu{sp ns:?y}[?jN](h:q∈Dh ?hO):q.1∈sp/\q.2∈ns:=by
 have h1:=?MK;exact#[(qr6 h1).1,(qr6 h1).2]
section
variable[?i]
abbrev Ho[?b0]:Sp:=λvs H Q _=>Ko λ(i b:Int)=>By (vs=[?bI,?e b]) (0<=i) (i<b) (Q ?dQ H)
abbrev Ss:Sp:=λvs H Q _=>Tb λ ?bE (sp:?y) ?cW=>C9 ?f0 (?a37 a (?lV ?X)) (Rd H b ?gX) (sp.length<=1000) (?a71 ((?lV (Au ms)).map ?X))
abbrev Pz:Sp:=λvs H Q _=>Nl λ ?e0 ?a3 ?S=>Nm (vs=[?N,?cH]) ?aP (xs.length<=1000) ?wE (0<=k) (k<5) (wO H (?tR).length ?fY (λi j=>?QK) Q)
universe e9
def sumN_one{sp:?y}(h:sp.Nodup){k:Int}(hk:k∈sp)(c:Int):?c (λm=>?W6) ?lI=c:=by
 let ?IF:=qh5 hk
 have key:∀m,?G3->(?W6)=(if m=i then 1 else 0)*(λ_:Nat=>c) m:=by
  intro m hm;rw[qa1,qa0 hm,Option.getD_some];by_cases q:m=i
  . subst q;rw[?b1,?L,qd8]
  . rw[?d5,if_neg,qf8];intro z;exact q ((List.getElem_inj h).mp (z.trans ?iK))
 rw[Ah key,Dv,?i5]
def LL{sp:?y}(hs:sp.Nodup)[?I]:∀{ms:Ms},?bD->(∀p∈ms,p.1∈sp)->?aK=?c (λm=>?a53 ms) ?lI
 | [],_,_=>by
   rw[Tf,Ah (g:=?h8) (λm _=>by rw[Gd,qd4]),Rp]
 | ?g0,h,hk=>by
   ext jJ;have ih:=LL hs φ (ms:=ms) h.2 ?T3;have h1:=?aS hs (hk p ?aY) (?hQ*p.2)
   have e:∀m,?G3->?a53 ?tM=(if ?e9=p.1 then ?hQ*p.2 else 0)+?a53 ms:=by
    intro m _;rw[Ds];by_cases q:?e9=p.1
    . rw[?o ?rN,?fH,q,E7 h.1,qd4,qf6]
    . rw[?j (?a5F q),?d5,qi6]
   rw[Dj,ih,Ah e,Cm,h1,qe8 p.2]
abbrev Oo[?W][?fJ]:Int:=?QK
def Pc[?x]{k p:Int}(h0:0<=p)(h1:?rQ)(h:De ?oJ=k):?BC:=by
 unfold C3 U2;apply ?rL #[?gC,qg5.mpr #[?yC,qf2 h],O9m]
def Ac2[?n]{j:Nat}(hj:j<?fY):?g2∈?aV:=by
 rw[qa1,?e6];exact ?C0
def JR[?x][?aN]{k:Int}{i j:Nat}(hj:j<(?Q5).length):?c (λm=>Oo xs k i m*Oo xs ?a6 m j) ?fY=0:=by
 let ?IB:=Cu (Ac2 hj);unfold Oo;rw[?xQ];generalize ?a7G ?Q5 j=p at q0 q1 q2;generalize ?iF i 0=e;have hcb:=Jn hs (k:=k+1) (ms:=?pW) (?a40 ?IB);rw[?xQ]at hcb
 have hkey:∀r∈?r7,r.1∈?aV:=λr hr=>by
  ext EV;have h2:?a4C (?t4=k):=?g4;rw[qb7,qb7]at h2;exact ?R2
 have hbb:=CZ hs (ms:=?pW) (?a40 #[q0,q1]);have hg:=E6 (xs:=xs) (ms:=?r7) e;rw[hbb,Gd,LL (Gi xs k) _ (show nd (?r7) from J6 ..) hkey]at hg;apply ?t6 (Ah λm _=>?_) hg.symm;rw[AE]
def VX[?cB]:C3 xs (0-1)=[]:=by
 cases h:C3 xs (0-1) with
 | nil=>rfl
 | cons p l =>
   exfalso
   have h1:=(Cu (xs:=xs) (k:=0-1) (p:=p) (by rw[h];exact ?jU)).2.2;unfold De at h1;split at h1<;>omega
def jA[?x][?jK](k:Int)[?fJ]:?OS<?xJ:=OE h4 _ _
section
variable[?i]
universe e9
noncomputable abbrev Cv[?W]:Nat:=?fY
def GX[?jO](e:Int):∀i:Nat,-((i / 2:Nat):Int)<=?kY/\?kY<=((?H / 2:Nat):Int)
 | 0=>#[qw3 _,qw3 _]
 | i+1=>by
   have ih:=GX fs e i;show _<=(?xM)/\(?xM)<=_;ext h1
def lV[?vB](h:fs.length<=4)(e:Int):(Ry fs e).natAbs<=2:=by
 have:=GX fs e ?yX;unfold Ry;omega
def vH[?x][?jK](k:Int)[?fJ]:?OS<=2:=by
 apply lV ?_ _;rw[qa1];cases e:xs[((C3 xs k).getD j 0).toNat]? with
 | none=>ext dJ
 | some x=>exact ?CC
def rF[?x]{k l:Int}(h:k≠l):?cP+?a6E l<=xs.length:=by
 have nd:(?QQ).Nodup:=by
  rw[qt2];apply#[?CF,?CF,λa ha b hb e=>h ?_];have h1:=(Cu ha).2.2;have h2:=(Cu hb).2.2;rw[←h1,←h2,e]
 have sb:(?QQ) ⊆ upN ?d9:=λp hp=>by
  have:?PD:=by
   ext FH
   . exact ?LE
   . exact ?LE
  unfold upN;rw[qd0];exact#[?gC,?yC,O9m]
 have:=nd.length_le_of_subset sb;rw[qc6,lN]at this;exact this
noncomputable abbrev Bc:=Int × Ms × Ms × Ms
abbrev L8[?W][?nJ]:Ms:=Dh (?kG (?hZ))
structure qD[?W][?uZ][?gY]:Prop where
 lev:Lat.Lev (?n1) ?aF z ?sS L G
 fin:Am7 z (?jR) (2 ^ kB z) ?bB (kS z (?jR)) (Lat.gT ?aF G (Oo xs ?a6)) k0 f l r
 ch:?QV
 kz:k0<=z
 kw:k0<=?jR
 bL:?TE
 bG:?RB
 zm:z<=?cP
abbrev C0[?W][?uZ][?gY](i:Nat):Bc :=
 (?cM,?x4,?sG,?SJ)
abbrev Ft[?W][?uZ][?gY]:?bL:=?XS (?a2C C0 k)
abbrev Rm[?W][?aZ]:Prop:=∃z k0 L G f l r,?vT/\ps=?EB
def SR[?x][?aN](k:Int):∀c,c<?jR->?a5Q (λa=>Oo xs ?a6 a c):=λc hc x _=>JR hs hc
structure Sn[?cB](n:Nat)(zs ks:?r)(Ls Gs:?IN)(fs:?cO)(lp rp:?OE)[?c7]:Prop where
 len:ls.length=n
 z0:zs 0=?DI/\Ls 0=Lat.one/\Gs 0=Lat.one
 nx:∀j,j<n->zs ?bG=?a6E (?c5+1)-ks j/\Ls ?bG=(λi=>(rp j).1 (ks j+i))/\Gs ?bG=λi=>(rp j).2 (ks j+i)
 lv:∀j,j<n->?a46 qD/\ls[j]?=?d (?HZ)
abbrev Of[?cB](n:Nat)[?c7](z:Nat)(L G:Lat.Mat):Prop:=∃zs ks Ls Gs fs lp rp,?a5G n/\zs n=z/\Ls n=L/\Gs n=G
def Of.first[?cB]:Of xs 0 [] (?DI) ?gV ?gV :=
 #[λ_=>?DI,?h8,?U1,?U1,λ_ _=>0,?WS,?WS,#[rfl,?JD,?GU,?GU],rfl,rfl,rfl]
abbrev DN[?FU](n:Nat)(a:α):Nat->α:=λj=>if j=n then a else g j
def Hn[?FU](n:Nat)(a:α):DN g n a n=a:=?L
def Ek[?FU]{n j:Nat}(a:α)(h:j≠n):DN g n a j=g j:=?bO
def Of.snoc[?x]{n:Nat}[?fI]{z k0:Nat}{L G:Lat.Mat}[?jI](h:?TJ)(b:?a2C qD ?cY) :
 Of xs ?G (ls++[?a2C Ft ?cY]) (?a6E ?cX-k0) (?RW) ?HW:=by
 let#[zs,ks,Ls,Gs,fs,lp,rp,t,rfl,rfl,rfl]:=h;apply#[DN zs ?G (?a6E ?cX-k0),DN ks n k0,DN Ls ?G ?RW,DN Gs ?G ?HW,DN fs n f,DN lp n l,DN rp n r,#[?_,?_,?fQ,?fQ],Hn ..,Hn ..,Hn ..]
 . rw[qc6,t.len];rfl
 . rw[?nS,?s2,?nY];exact t.z0
 . by_cases e:j=n
   . subst e;rw[Hn,Hn,Hn,Hn,Hn];exact ?JD
   . rw[?nS,?NL,?s2,?nY,?OL];exact t.nx j O9m
 . by_cases e:j=n
   . subst e;rw[?nS,?s2,?nY,Hn,Hn,Hn,Hn];exact#[b,by rw[qd1 (by rw[t.len];ext eD),t.len,qh8];rfl]
   . rw[?nS,?s2,?nY,?NL,Ek fs _ e,Ek lp _ e,?OL];let ?vX:=t.lv j O9m;exact#[h1,by rw[qc9 (by rw[t.len];omega)];exact h2]
def Of.lev[?x]{n:Nat}[?fI]{z:Nat}{L G:Lat.Mat}(h:?TJ):∀(j:Nat) ps,ls[j]?=?lU->?OG:=λj ps e=>by
 let#[zs,ks,Ls,Gs,fs,lp,rp,t,_]:=h;ext ZV;exact#[_,_,_,_,_,_,_,h1,rfl]
universe Hb
namespace L2
open PySem PySem.Spec PyProof.Rows
universe L2
namespace L2
open PySem PySem.Spec PyProof.Rows
section
variable{X:Cx}[?Q]
universe e9
section
variable{X:Cx}[?nC]
universe e9
structure Fin(B k:Nat)(p:PyData):Prop where
 sh:p.showable=true
 le:p.shown.length<=B
 dp:p.depth<=k
section
variable[?n8]
universe e9
section
variable{prog:Program}{w:World}{A:Around}{R:Result->?EC}
universe e9
universe L2
namespace Hb
open PySem L2
def Rows.drop{H H1 H2:Hp}{D C:Addr}{as:?AD}{w k:Nat}[?v3](R:Rows H H1 D as w f)(hC:H1 C=none)(h2:H2=upd H1 C (?s ((?V8).map V.ref))):Rows H H2 C (?V8) w (?I3):=by
 subst h2;apply#[R.same.trans (?b3 hC),R.same.free hC,Ab,λj a e=>?_];rw[qw7]at e;let#[h1,h3,h4]:=R.row ?e4 a e;have ne:a≠C:=λz=>by rw[z,hC]at h4;cases h4
 exact#[h1,ne,by rw[Al ne];exact h4]
section
variable[?i]
universe e9
abbrev Jb(H:Hp)(v:V)(p:Bc):Prop:=∃t a b c,v=?eL/\?a5H t/\H a=?a1R ?f8/\?a6U ?e7/\H c=?a1R ?e5/\b≠c
def Jb.same{H H':Hp}[?jQ](h:?mW)[?h0]:Jb H' v p:=by
 let ?KL:=h;exact#[t,a,b,c,e,?IQ,s _ _ h2,s _ _ h3,s _ _ h4,ne]
abbrev B4(H:Hp):?a6Y ?v ?bL
 | [],[]=>True
 | ?n3,?eY=>?mW/\?iT
 | _,_=>False
def B4.same{H H':Hp}[?h0]:?WV
 | [],[],h=>h
 | ?n3,?eY,h=>#[h.1.same s,B4.same s h.2]
 | [],?c6,h=>h.elim
 | ?c6,[],h=>h.elim
def B4.len{H:Hp}:∀[?aJ][?R],?iT->?LN
 | [],[],_=>rfl
 | ?n3,?eY,h=>by rw[qd6,qd6,B4.len h.2]
 | [],?c6,h=>h.elim
 | ?c6,[],h=>h.elim
def B4.snoc{H:Hp}:∀[?aJ][?R][?jQ],?iT->?mW->B4 H ?HM (ps++[p])
 | [],[],v,p,_,h=>#[h,trivial]
 | u::vs,q::ps,v,p,h,h2=>#[h.1,B4.snoc h.2 h2]
 | [],?c6,_,_,h,_=>h.elim
 | ?c6,[],_,_,h,_=>h.elim
def B4.get{H:Hp}:∀[?aJ][?R]{i:Nat}{v:V},?iT->?fV->∃p,?m5/\?mW
 | [],[],i,v,_,e=>?TT
 | u::vs,q::ps,0,v,h,e=>#[q,rfl,by have:u=v:=?mV;subst this;exact h.1]
 | u::vs,q::ps,i+1,v,h,e=>by
   have e':?fV:=?rG
   let#[p,h1,h2]:=B4.get h.2 e';exact#[p,?Y,h2]
 | [],?c6,_,_,h,_=>h.elim
 | ?c6,[],_,_,h,_=>h.elim
def Jb.put{H:Hp}[?eG]{vs us:?v}[?jQ](h:?mW)(hD:H D=?a27 vs):Jb (?a3G D ?XX) v p:=by
 let#[t,a,b,c,e,h1,h2,h3,h4,nbc]:=h
 have ne:∀{x:Addr}{o:HO},H x=?dU->(∀ws,o≠?s ws)->x≠D:=λ{x o} e h z=>by
  rw[z,hD]at e;cases e;exact h _ rfl
 exact#[t,a,b,c,e,by rw[?a5W h1];exact h1,by rw[?a5W h2];exact h2,by rw[?a5W h3];exact h3,by rw[?a5W h4];exact h4,nbc]
def B4.put{H:Hp}[?eG]{us0 us1:?v}(hD:H D=?a27 us0):?a7F (?a3G D (?s us1))
 | [],[],h=>h
 | ?n3,?eY,h=>#[h.1.put hD,?qA hD h.2]
 | [],?c6,h=>h.elim
 | ?c6,[],h=>h.elim
def jR{k z:Nat}(h:k<=z)[?bV]:VI k f++?sF (z-k) (?X 0)=VI z (?k7 f k):=by
 apply qp9 λi=>?_;by_cases hi:i<k
 . rw[qc9 (by rw[Bu];exact hi),Co hi,?DV];unfold Lat.numAt;rw[?i5]
 . rw[qd1 ?f6,Bu];by_cases hz:i<z
   . rw[Co hz,qt7,?iN];unfold Lat.numAt;rw[?j hi]
   . rw[qh4 (by rw[qj9];omega),?EI]
def sQ(n:Nat)[?bV]:(Ii n f).map ?X=VI n f:=rfl
def IK{a b:Int}(ha:a.natAbs<?s9)(hb:b.natAbs<?s9):?cQ a b:=Lu ha hb (by unfold bookF;decide)
section
variable[?i]
abbrev BX:Sp:=λvs H Q _=>Ye λ ?bE ?a3 ?S ?I2=>Hz ?rW ?aP (xs.length<=1000) (?a37 b ?rZ) (ns.length=?fY) (∀[?v4],?b6->?Z->?dK=?a1R (Dh (?kG ns))->?dD)
abbrev Xr:Sp:=λvs H Q _=>Ba2 λ(a tp nm r1 D1 D2 b2:Addr) (vl vg:V) ?a3 ?S (z k0 w:Nat) (L G:Lat.Mat) ?yM ?kL=>zS (vs=[?N,?cH,?f tp,vl,vg]) ?aP ?cL (w=?jR) (Rep K H vl (dT z ?aF L)) (Rep K H vg (dT z ?aF G)) (Ta K H tp nm r1 D1 D2 b2 z w k0 f l r) (z<=40) (k0<=z) (k0<=w) ((∀i,?i2->f i≠0)) (?cF z z ?bB l.1) (?cF z z ?bB l.2) (?TE) (?RB) (∀[?FT] (H':Hp),?b6->?Z->?xE->B4 H' us (?EB)->?dD)
abbrev Go(D:Addr)(H:Hp)[?nN][?c7]:Prop:=?WJ/\∀(i:Nat) v ps,?fV->?TI->∃a us,v=?N/\a≠D/\?DF
abbrev Py(H:Hp)[?nN][?c7]:Prop:=?WJ/\∀(i:Nat) v ps,?fV->?TI->∃a us,v=?N/\?DF
abbrev Xu:Sp:=λvs H Q _=>Ko λ ?e0 ?a3=>C9 ?pR ?aP ?i0 ?cL (∀[?FT] [?c7] (H':Hp),?b6->?Z->?xE->?N2->(?VQ)->Py H' us ls->?dD)
universe e9
def one_bits(n m:Nat):?cF n m ?bB ?gV:=λi j _ _=>by
 have h1:1<?s9:=Nat.one_lt_two_pow (by unfold bookF;decide);unfold Lat.one;split
 . exact h1
 . exact qv1 (?bX:0<1) h1
def mP[?Q]{H:Hp}{v:V}{n:Nat}(h:?a2H n ?OK):?a2H n ?gV:=by
 have e:(λi j:Nat=>if j=i then ?vH else 0)=Lat.one:=by
  funext i j
  unfold Lat.one;by_cases h:i=j
  . rw[?d2,?vJ]
  . rw[?bO,?j ?S9]
 rwa [e]at h
def xM[?Q]{H:Hp}{C:Addr}{us:?v}{h w k:Nat}[?v3](hr:∀i u,us[i]?=?d u->i<h/\∃b,u=?c0/\?a37 b (?MQ))(hl:us.length=h)(hC:?a37 C (us.drop k)):Rep K H ?B4 (dT (h-k) w ?I3):=by
 apply iF hC (by rw[qj3,hl]) ?hR;have e:us[k+i]?=?d (us[k+i]' ?d4):=?h6;let ?D6:=hr ?bC _ e;exact#[b,by rw[qw7,e,eb],hb]
abbrev Al6(us:?v):Prop:=∀u∈us,∃a,u=?N
def Y0[?Q]{H:Hp}{D b:Addr}{xs:?v}{o:HO}(h:?a37 b xs)(ne:b≠D):SqL K ?nW b xs:=by
 rcases h with(h|⟨q,h⟩) | h
 . exact ?a60 ?CT
 . ext a11
 . exact ?g9
def vL[?Q]{H:Hp}{D b:Addr}{xs us:?v}{o:HO}(h:?a4U b xs)[?nE]:SqT K ?nW b xs:=by
 rcases h with(h|⟨q,h⟩) | h
 . ext a12
   exact ?a60 ?CT
 . ext a12
   ext a11
 . exact ?g9
def FF[?Q]{H:Hp}{D t:Addr}{us:?v}{h w:Nat}[?v3]{o:HO}(hr:Rep K H (?eL) (dT h w f))(ne:t≠D)(hw:0<h->0<w)[?nE](qF:Al6 us):Rep K ?nW (?eL) (dT h w f):=by
 let#[_,tu,ez,hq,hl,Pi]:=Iz hr;cases ez;apply iF (Y0 hq ne) hl ?hR;have e:tu[i]?=?a3J tu i:=?h6;let ?D6:=Pi i _ e;apply#[b,?YH,?_];rcases hb with(hb|⟨q,hb⟩) | hb
 . apply Y0 (?h (?h hb)) ?fU;rw[z,hD]at hb;have e1:us=?MQ:=by injection hb with e;injection e
   have hw':=hw O9m;have e2:us[0]?=?a2V (f i 0):=by rw[e1];exact Co hw'
   let#[c,hc]:=qF _ (qb1 e2);cases hc
 . apply Y0 (?a5K q hb) ?fU;rw[z,hD]at hb;cases hb
 . exact ?m hb
structure LF(D nm r1 D1 D2 b2:Addr):Prop where
 e1:nm≠D
 e2:r1≠D
 e3:D1≠D
 e4:D2≠D
 e5:b2≠D
def Ta.put[?Q]{H:Hp}{D tp nm r1 D1 D2 b2:Addr}{n w k:Nat}[?jI]{us:?v}{o:HO}[?a18](ne:?RP)[?nE](qF:Al6 us):?a2I ?nW :=
 #[vL x.tup hD,Y0 x.num ne.e1,?a6D ?DM ne.e2,?a6D ?z0 ne.e3,?a6D ?wU ne.e4,?a6D ?zX ne.e5]
def AN.ne[?Q]{H H':Hp}{tp nm r1 D1 D2 b2 D:Addr}{n w k:Nat}[?jI]{o:HO}[?a15](hD:H D=?dU):?RP:=by
 have go:∀a,(?TP)->a≠D:=λa h z=>by
  have:=(x.new a h).1;rw[z,hD]at this;cases this
 exact#[go _ (?h rfl),go _ (?m (?h rfl)),go _ (?m (?m (?h rfl))),go _ (?a4Y ?h),go _ (?a4Y ?m)]
abbrev ZR[?i](H:Hp)(a D:Addr)[?cB](k:Nat)(σ:St)(G':Hp):Prop :=
 ∃(us:?v) (ls:?k5) (la ga:Addr) (z:Nat) (L G:Lat.Mat) (o4 o5 o6 o7:?kD),σ=[rS a,rS D,rS la,rS ga,o4,o5,o6,o7]/\?IY/\G' D=?cV/\ls.length=k/\?a6B k/\Go D G' us ls/\la≠D/\ga≠D ∧
   Rep K G' (?f la) (dT z ?i4 L)/\Rep K G' (?f ga) (dT z ?i4 G)/\Lat.Lev (?a6E (?S-1)) ?i4 z (Oo xs ?S) L G/\z<=?BB/\?a57 ?i4 L/\?a57 ?i4 G
def Go.out[?eG]{H:Hp}[?aJ][?fI][?v6]:?PV :=
 (?a7L #[a,us,e,_,h1,h2] ?WN)
def Go.same[?eG]{H H':Hp}[?aJ][?fI][?v6][?h0]:Go D H' vs ls :=
 (?a7L ?SF #[a,us,e,n,?IQ,h2.same s])
def Go.refs[?eG]{H:Hp}[?aJ][?fI][?v6]:Al6 vs:=λu hu=>by
 let ?o0:=qf1 hu;have hl:=?yZ;have h0:=h.1;let#[a,_,e,_]:=h.2 i u _ hi (?h6);exact#[a,e]
def Go.snoc{D E:Addr}{H:Hp}{vs eu:?v}[?fI][?R][?v6](hD:H D=?a27 vs)(ne:E≠D)(hE:H E=?a27 eu)(r:B4 H eu ps):Go D (?a3G D (?s (vs++[?f E]))) (vs++[?f E]) (ls++[ps]):=by
 apply#[by rw[qc6,qc6,h.1];rfl,λi v qs e1 e2=>?_];have h0:=h.1;by_cases hi:?xN
 . rw[?zN]at e1;rw[?oD]at e2;let ?SF:=?a69 v qs;exact#[a,us,e,n,by rw[Al n];exact h1,?qA hD h2]
 . ext a01
   ext a08;have q1:v=?f E:=?MS
   have q2:qs=ps:=?XH
   subst q1 q2;exact#[E,eu,rfl,ne,by rw[Al ne];exact hE,?qA hD r]
universe Hb
namespace L2
open PySem PySem.Spec PyProof.Rows PySem.SeqAt
section
variable{X:Cx}{n:Nat}[?Q]
universe e9
universe L2
namespace Hb
open PySem L2
abbrev Hr[?aZ]:?bL:=ps.filter λp=>?k (p.1≠1)
def gZ[?aZ](p:Bc):Hr (ps++[p])=if ?g5 then ?lN else ?lN++[p]:=by
 unfold Hr;rw[qp2];by_cases h:?g5
 . rw[?d2,qm2,?a5E ?j,List.filter_nil,List.append_nil]
 . rw[?bO,qm2,?a5E ?o,List.filter_nil]
abbrev lift1(fl:Ms)[?cA](g:?b2):?fO:=lf.set ?AC (Em (?iU ?AC []) (Hv g.2 fl))
abbrev Q4[?cA](p:Bc):?fO:=if ?g5 then p.2.2.1.foldl (lift1 ?e5) lf else lf
abbrev Kq[?cA][?aZ]:?fO:=?Q0 Q4 lf
abbrev Cn(n:Nat)[?c7]:?fO:=?LI Kq (?sF n [])
structure Fy(ms:Ms):Prop where
 n:?bD
 z:?q0
 k:?kW
def Fy.nil:Fy []:=#[qv8,(λp h=>?s8),(λp h=>?s8)]
def Fy.len{ms:Ms}(h:Fy ms):?L4:=by
 have:=eK (?aD λ(p:?b2)=>p.1) (upN 40) h.n λx hx=>by
  let ?wK:=?b8 hx;have:=h.k p hp;unfold upN;exact ?rL #[?l6,?yC,O9m]
 rwa [qa4,lN]at this
def y4{ms:Ms}{j:Int}(h:?k6≠0):j∈?aD (·.1):=by
 by_cases e:j∈?aD (·.1)
 . exact e
 . exact ?aA (E7 e) h
def Fy.plus[?FG]:Fy ?dW:=by
 let#[r1,r2,_,r4]:=?T1;apply#[r1,r2,?bY];have e:=E5 r1 hp;have e2:Au ?dW p.1=p.2:=by unfold Au;rw[e];rfl
 have hz:=r2 p hp;rw[←e2,r4]at hz
 have:p.1∈?aD (·.1)\/p.1∈?tQ (·.1):=by
  by_cases q:?y5=0
  . exact ?m (y4 O9m)
  . exact ?h (y4 q)
 rcases this with h | h
 . let ?OZ:=?q7;rw[←eq];exact h1.k q hq
 . let ?OZ:=?q7;rw[←eq];exact h2.k q hq
def Fy.times{ms:Ms}(h:Fy ms)(n:Int):Fy ?mZ:=by
 unfold Hv;split
 . exact Fy.nil
 . rename_i hn
   apply#[?_,?bY,?bY]
   . have:=h.n;unfold nd at this ⊢;rw[qk5];exact this
   . ext FL;exact Int.mul_ne_zero hn (h.z q hq)
   . ext FL;exact h.k q hq
abbrev Hl(n:Nat)[?cA]:Prop:=lf.length=n/\∀m∈lf,Fy m
def Hl.at{n:Nat}[?aU](h:?dZ)(i:Nat):Fy (?iU i []):=by
 rw[qa1];cases e:lf[i]? with
 | none=>exact Fy.nil
 | some m=>exact h.2 m ?tG
def Hl.lift1{n:Nat}[?aU][?a17]:Hl n (?T9):=by
 apply#[by unfold Hb.lift1;rw[qi4];exact h.1,?X3];rcases qn8 hm with q | rfl
 . exact h.2 m q
 . exact(h.at _).plus (hf.times _)
def Hl.go{n:Nat}{fl:Ms}(hf:Fy fl):∀(gs:Ms) [?aU],?dZ->Hl n (?L8 (Hb.lift1 fl) lf)
 | [],_,h=>h
 | g::gs,_,h=>Hl.go hf gs (h.lift1 hf g)
structure Nh(n:Nat)(p:Bc):Prop where
 gk:∀g∈?e7,?C1
 fl:Fy ?e5
 mul:∀g∈?e7,∀q∈?e5,?cQ g.2 q.2
abbrev Gg(O H:Hp)[?nN][?cA]:Prop:=vs.length=lf.length/\∀(i:Nat) v,?fV->∃c,v=?f2/\?m8/\H c=?a1R (?iU i [])
def Hl.part{n:Nat}[?aU]{p:Bc}(h:?dZ)(hp:?oN):Hl n (Q4 lf p):=by
 unfold Q4;split
 . exact Hl.go hp.fl _ h
 . exact h
def Hl.parts{n:Nat}:∀[?R][?aU],?dZ->(∀p∈ps,?oN)->Hl n (?wN)
 | [],_,h,_=>h
 | ?eY,_,h,hp=>Hl.parts (ps:=ps) (h.part (?K7)) (?a5S hp)
def Hl.first(n:Nat):Hl n (?sF n []):=#[qj9 ..,λm hm=>by rw[(List.mem_replicate.mp hm).2];exact Fy.nil]
def Gg.same[?nO][?aJ][?aU](h:?yL)[?h0]:?UK :=
 #[h.1,λi v e=>let ?T4:=?VD;#[c,e1,e0,s _ _ e2]]
def Gg.keep[?nO][?aJ][?aU](h:?yL)(s:∀c kvs,?m8->H c=?d (.dK kvs)->H' c=?d (.dK kvs)):?UK :=
 #[h.1,λi v e=>let ?T4:=?VD;#[c,e1,e0,s _ _ e0 e2]]
def Gg.snoc{O H:Hp}[?aJ][?aU][?a0B]:Gg O H (vs++[?f2]) (lf++[m]):=by
 have h0:=h.1;apply#[?K8,λi v ei=>?_];rw[qa1];by_cases hi:?xN
 . rw[?zN]at ei;rw[?oD,←qa1];exact h.2 i v ei
 . have hi2:=(?aR ei).1;rw[qc6,qq2]at hi2;have eq:?GN:=O9m
   subst eq;rw[?uD,qh8]at ei;rw[h0,?uD,qh8];have q1:v=?f2:=by simpa using ei.symm
   exact ?P4
def Gg.set{O H:Hp}[?aJ][?aU][?a0B](i:Nat):Gg O H (vs.set i (?f2)) (lf.set i m):=by
 have h0:=h.1;apply#[by rw[qi4,qi4,h0],λj v ej=>?_];rw[qa1];by_cases q:i=j
 . subst q;have hl:=(?aR ej).1;rw[qi4]at hl;rw[qp4 hl]at ej;rw[qp4 ?g];have q1:v=?f2:=by simpa using ej.symm
   exact ?P4
 . rw[ql7 q]at ej;rw[ql7 q,←qa1];exact h.2 j v ej
abbrev La[?b0]:Sp:=λvs H Q _=>Nl λ ?e0 ?kP ?wG=>C9 ?pR (H a=?cV) (?JF) (ps.length<=1000) (∀(D:Addr) (us':?v) (H':Hp),?b6->?Z->?dK=?a27 us'->B4 H' us' ?fD->?dD)
abbrev Xs[?i]:Sp:=λvs H Q _=>Ye λ ?bE ?a3 ?kP ?wC=>Nm ?f0 ?aP ?cL (H b=?cV) (Py H us ls) ((∀ps∈ls,?CD)) (∀(D:Addr) (ws:?v) (H':Hp),?b6->?Z->?dK=?a27 ws->Gg H H' ws (?hM)->?dD)
def W1(n:Nat):De n=((n-1:Nat):Int):=by
 unfold De;ext h1
def pA[?x]{p:?y}(h:Ba1 xs p):y8 xs (tI p)=true:=by
 have bl:∀f∈p,∃q,?WQ=?f9/\?y4=q/\f.toNat<xs.length/\q.length-1+1=p.length-1:=λf hf=>by
  let#[q,e,l]:=h.bel f hf;let#[hlt,_]:=?aR e;exact#[q,e,by rw[qa1,e];rfl,hlt,l]
 show y8 xs (?D (E4 p))=true;rw[Sb];have hl:(E4 p).length=p.length:=by simp[E4]
 rw[hl];simp only[qb7,qs1];apply#[#[?_,?_],?_]
 . rcases h.cnt with e | e | e | e<;>rw[e]<;>rfl
 . rw[qd3];intro d hd;let#[f,hf,rfl]:=?b8 hd;let#[q,e,eq,hlt,l]:=bl f hf;have h0:=h.low f hf;show(?k (0<=f)&&?k (f<?g1)&&?k (De ?HE=De p.length-1))=true;rw[eq,W1,W1];simp only[qb7,qp5];omega
 . by_cases h3:3<=p.length
   . right
     have e0:(E4 p).map YD=p:=by
      unfold E4;rw[qk5];exact ?IE p
     rw[e0];ext a0P;have hj:=?i1 hj;have hi:=?iV;unfold Vy;rw[qp5];have ej:p[j]?=?d p[j]:=?e6;have ei:p[i]?=?a3J p i:=?h6;let#[q,e1,e2,_]:=bl p[j] (?C0);let#[r,e3,e4,_]:=bl (p[i]' ?d4) (?gP);have key:=h.agr h3 i j _ _ q r hi ej ei e1 e3;rw[show ?nP=p[j] by rw[qa1,ej];rfl,show ?rY=p[i]' ?g by rw[qa1,ei];rfl,e2,e4,qa1,qa1,key]
   . left;rw[W1];ext cD
def Pt[?n][?jP][?jN](h:q∈?kN):(?D5)/\∃c,c<?cP/\q.2=v c:=by
 let ?vX:=Vu h;have h3:=Cu h1;let#[c,hc,e]:=?b8 h2;exact#[#[h3.1,h3.2.1],c,?i1 hc,?iK]
def Xi[?x][?bT](k:Int)[?nJ]:Fy ?gR:=by
 apply#[?_,?j9,?j9]
 . have:=iV (sp:=?aV) (ns:=?hZ) (?AW) (?CF);unfold nd at this ⊢;exact this.sublist (qu3 _ (qr8 ..))
 . have:=(?eJ hq).2;ext cT
 . have:=?JE;omega
def Rm.ok[?n][?R][?v8][?bT]:?CD:=by
 ext uU;intro p hp;ext uX;have hi:=?iV;ext a0Y;apply#[λg hg=>(Pt hg).1,?_,λg hg q hq=>?_]
 . show Fy ?n4;split
   . exact Fy.nil
   . exact ?zI
 . let ?XQ:=Pt hg
   replace hq:q∈?n4:=hq
   split at hq
   . cases hq
   . rename_i e0
     have hik:?i2:=by
      by_cases hh:?i2
      . exact hh
      . unfold Lat.numAt at e0;rw[?j hh]at e0;exact ?aA rfl e0
     let#[_,d,hd,e2]:=Pt hq
     have h1:(?cN z l.1 G i c).natAbs<?uP:=Uc λj hj=>by
      rw[qb2,qe1];exact ?a68 ?DW bl.bG
     have h2:=?IC i d (qb5 hik bl.kw) hd;rw[e,e2];exact Lu h1 h2 (by unfold bookF;omega)
def B4.kd{H H':Hp}(s:∀c o,?YQ):?WV
 | [],[],h=>h
 | ?n3,?eY,h=>by
   let#[?KL,h5]:=h;exact#[#[t,a,b,c,e,s _ _ h1 ?XN,s _ _ h2 ?iD,s _ _ h3 ?iD,s _ _ h4 ?iD,ne],B4.kd s h5]
 | [],?c6,h=>h.elim
 | ?c6,[],h=>h.elim
def Rm.len[?n][?R][?v8][?bT]:ps.length<=40:=by
 ext uU;unfold Ft;rw[qa4,qp7];exact ?C3
abbrev OU(H:Hp)(d:Addr):Hp:=λa=>if a=d then none else H a
def Mp{H:Hp}{c d:Addr}(h:c≠d):OU H d c=H c:=?bO
def MH{H:Hp}{d:Addr}:OU H d d=none:=?L
def oU{H:Hp}{d:Addr}:?F ?FY H:=λc o e=>by
 by_cases h:c=d
 . rw[h,MH]at e;cases e
 . rwa [Mp h]at e
def TL{O H:Hp}{d:Addr}(s:?F O H)(h:O d=none):?F O ?FY:=λc o e=>by
 rw[Mp (Aq e h)];exact s c o e
structure FP[?i](C:Addr)(B:Hp)(p:Addr)[?cB][?c7]:Prop where
 ob:lG λdx P Lv Lf lu wu=>B p=?a2U C [(?RZ,?f P),(?KP,?f Lv),("lifts",?f Lf)]/\C9 (LT K B (?f P) xs) (B Lv=?a27 lu) (Py B lu (ls.map Hr)) (B Lf=?a27 wu) (Gg (λ_=>none) B wu (?hM))
 sh:?rT
 len:?u8
 n4:?N2
 lev:∀(k:Nat) ps,?sH->Rm xs ?S ps
 tie:?VQ
abbrev lR[?i]:Sp:=λvs H Q _=>Ko λ ?eS ?a3=>By ?rS (LT K H v xs) ?cL (?o9)
abbrev Zo[?i]:Sp:=λvs H Q _=>?a3H (∀H',?Z->?b7)
abbrev Uq[?i]:Sp:=λvs H Q _=>?a3H ?o4
abbrev gE[?i](C:Addr):Sp:=λvs H Q _=>lG λ(p dx a:Addr) ?kP ?dF ?a3=>DH (vs=[?aW,?N]) (?a7I C []) (H a=?cV) (?eP K H0 us (xs.map tI)) (?AU) (?a4G a) (?vZ) ?i0 ?cL (∀(B:Hp) [?c7] (H':Hp),?wD->?zV->?F H0 B->?F B H'->B a=none->?b7)
abbrev Px(O H:Hp)(v:V)(p:Bc):Prop:=∃t a b c,v=?eL/\(O t=none/\O a=none/\?YY/\?m8)/\?a5H t/\H a=?a1R ?f8/\?a6U ?e7/\H c=?a1R ?e5
def Px.kd[?nO][?jQ](h:?oX)[?a02]:Px O H' v p:=by
 let#[t,a,b,c,e,?H1,h1,h2,h3,h4]:=h;exact#[t,a,b,c,e,?H1,s _ _ n1 h1 ?XN,s _ _ n2 h2 ?iD,s _ _ n3 h3 ?iD,s _ _ n4 h4 ?iD]
abbrev El(O H:Hp)[?nN][?aZ]:Prop:=?LN/\∀(i:Nat) v p,?fV->?m5->?oX
def El.kd[?nO][?aJ][?R][?v5][?a02]:?R8 :=
 #[h.1,λi v p e1 e2=>(?YZ).kd s]
def El.same[?nO][?aJ][?R][?v5][?h0]:?R8:=h.kd λc o _ e _=>s c o e
def Px.put{O H:Hp}[?eG]{us ws:?v}[?jQ](h:?oX)[?nE]:Px O (?a3G D (?s ws)) v p:=h.kd λc o _ e ho=>by
 rw[Al ?fU]
 . exact e
 . rw[z,hD]at e;cases e;rcases ho with⟨_,q⟩|⟨_,q⟩<;>cases q
def El.put{O H:Hp}[?eG]{us ws vs:?v}[?R][?v5][?nE]:El O (?a3G D (?s ws)) vs ps:=#[h.1,λi v p e1 e2=>(?YZ).put hD]
def El.snoc{O H:Hp}[?aJ][?R][?jQ][?v5](hp:?oX):El O H ?HM (ps++[p]):=by
 have h0:=h.1;apply#[?K8,λi u q e1 e2=>?_];by_cases hi:?xN
 . rw[?zN]at e1;rw[?oD]at e2;exact ?a69 u q
 . ext a01
   ext a08;have q1:u=v:=?MS
   have q2:q=p:=?XH
   subst q1 q2;exact hp
def Py.at{H:Hp}[?aJ][?fI]{k:Nat}(h:?PV)(hk:k<ls.length):∃a us ps,vs[k]?=?AG/\?sH/\?DF:=by
 have h0:=h.1;have e1:vs[k]?=?a3J vs k:=?h6;have e2:ls[k]?=?d ls[k]:=qa0 hk;let ?WN:=h.2 k _ _ e1 e2;exact#[a,us,_,by rw[e1,e],e2,h1,h2]
abbrev BZ[?i](C:Addr):Sp:=λvs H Q _=>Ye λ(p:Addr) ?S (B:Hp) ?a3 ?wC=>Hz (vs=[?aW,?cH]) (?zV) ?QW (0<=k) (k<4) (∀[?aZ] [?FT] (H':Hp),ls[k.toNat]?=?lU->?b6->?Z->?xE->El H H' us ?fD->?dD)
universe Hb
namespace L2
open PySem PySem.Spec PyProof.Rows PySem.SeqAt
section
variable{X:Cx}
def Vw:Fm X ?LV (λxs H Q=>∃a vs,xs=[?N,.ty ?C5]/\H a=?d ?QA/\?o9):=by
 ext ZQ;let#[_,its,_,ob,ho,hc,_]:=(?a4E ?QA)
 exact PySem.IsiPair.tuple_tuple ho hc ?CZ
def FJ:Fm X ?LV (λxs H Q=>∃a vs,xs=[?N,.ty ?pB]/\H a=?a27 vs/\?o9):=by
 ext ZQ;let#[_,its,m,_,ho]:=(?a4E (?s vs))
 exact PySem.IsiPair.list_list ho rfl ?CZ
universe e9
universe L2
namespace Hb
open PySem L2
abbrev FQ(ms:Ms)[?eB]:?lB
 | 0=>ms
 | j+1=>?PA
abbrev V7[?dI]:?lB
 | 0=>[]
 | i+1=>FQ ?hE ?pM ?rO ?lC
def Vh(ms:Ms)(k v j:Int):Au ?jD j=if j=k then v else ?k6:=by
 unfold Au;rw[cE];split<;>rfl
def MI(ms:Ms)[?jO](n k:Int):∀j,Au ?gW k=?a2+?rU*n
 | 0=>by simp[FQ,J5]
 | j+1=>by
   have ih:=MI ms fs n k j;show Au (?PA) k=?a2+(if fs.getD j 0=k then ?q8-2*(?c5%2) else ?rU)*n;rw[Vh];by_cases h:fs.getD j 0=k
   . rw[?vJ,?d2,h,ih];unfold AO;by_cases h2:?c5%2=0
     . rw[?o h2,h2];rw[show ?q8-2*0=?q8 by omega,qo5];omega
     . have h3:?c5%2=1:=O9m
       rw[?wZ,h3];rw[show ?q8-2*1=?rU+-1 by omega,qo5];omega
   . rw[?IJ,?bO];exact ih
def SH[?aT][?eB]:∀j,nd ?gW
 | 0=>h
 | j+1=>ED (SH h fs n j) _ _
def EI(ms:Ms)[?eB]:∀j,(?WD).length<=?a7B j
 | 0=>?b4
 | j+1=>by
   have h1:=EI ms fs n j;have h2:=?a65 EJ;show ?a3C ?f5;omega
def EC[?dI]:∀i,nd ?hE
 | 0=>qv8
 | i+1=>?a6H SH EC
def EH[?x][?jK](ms:Ms):∀i,(?T8).length<=4*i
 | 0=>?b4
 | i+1=>by
   have h1:=EH h4 ms i;have h2:=EI ?hE ?pM ?rO ?lC
   have h3:?lC<=4:=by
    rw[qa1];cases e:xs[(ms.getD i (0,0)).1.toNat]? with
    | none=>show ?sK<=4;omega
    | some x=>exact ?CC
   show(FQ _ _ _ _).length<=_;omega
def Zb[?dI](y:Int):∀i,Au ?hE y=Au ?eT y
 | 0=>rfl
 | i+1=>by
   show Au (FQ ?hE _ _ _) y=Au (Ih ?eT _ _ _) y;rw[MI,cO,Zb xs ms y i]
def JI[?x][?aN][?a00](e:Int):?XA=0:=by
 ext ER
 by_cases he:e∈?tR
 . let ?PN:=qh5 he;have:=h0 x hx;show ?JZ=0;rw[iK hl];apply ?t6 ?_ ?a0;ext a0X;rw[show ?iF x 0=e by rw[qa1,qa0 hx,ex];rfl,?XF]
 . ext a0Q
   have hcb:=Jn hs (k:=k) (ms:=?kN) λq hq=>by
    ext a0G
   ext ZF
def xN{ms:Ms}(hn:?bD)(h:∀e,Au ms e=0):?qE=[]:=by
 unfold Dh;rw[List.filter_eq_nil_iff];intro p hp;have e1:?y5=p.2:=?a3P hn hp
 rw[h]at e1;simp[←e1]
def NV[?x][?aN][?a00]:Dh (V7 xs ?gR (?kN).length)=[] :=
 xN (EC _ _ _) λe=>by rw[Zb];exact JI hs h0 e
def OY[?n]{u v:?t}:wF ?UA ?gR=?a7P (λc=>u c*v c):=by
 ext ER
 ext a0A
 have hz:=iX ?UA hl _ ?u;rw[qj5 ?gE]at hz;show wF _ (Dh (?kG (?hZ)))=_;rw[IX,hz];apply Ah ?fQ;have hb:=?NR
 have e1:Au ?g7 (?g2)=u j:=by
  ext ZP
  ext a0N
 ext a07
structure AM[?W](ms:Ms):Prop where
 len:?L4
 part:∀q∈ms,(?D5)/\?a5V ?zF=k/\q.2≠0
structure Am4[?W](p:Bc):Prop where
 lp:AM xs k ?f8
 gg:AM xs k ?e7
 fl:AM xs ?a6 ?e5
 no:?rC->?e5=[]
 nn:?fB
 n1:p.1≠1
abbrev A92(p q:Bc):Prop:=(?rC->q.1=0)/\(0<p.1->q.1%p.1=0)
structure nA[?W][?aZ]:Prop where
 one:∀p∈ps,Am4 xs k p
 ord:ps.Pairwise A92
structure IP[?cB][?aZ]:Prop where
 rnd:∀p∈ps,?a3I ?f8 ?IX=[]
 mul:∀p∈ps,∀q∈ps,∀t∈q.2.1,?cQ (Au ?e7 t.1) t.2
 dual:∀(i j:Nat) p q,?m5->ps[j]?=?f9->wF ?L6 q.2.1=?s5
abbrev Lx[?aZ](i:Nat):Int:=(?vH::?fC λp=>p.1).getD i 1
def j9[?R]{i:Nat}{p:Bc}(h:?m5):Lx ps ?H=p.1:=by
 unfold Lx;rw[List.getD_cons_succ,qa1,qb0,h];rfl
def SW[?R](h:ps.Pairwise A92)(hn:∀p∈ps,?fB){i:Nat}{p:Bc}(e:?m5):0<=?uF/\(?uF=0->?rC)/\(0<?uF->p.1%?uF=0):=by
 cases i with
 | zero =>
   have e0:Lx ps 0=1:=rfl;rw[e0];exact#[?bX,(?AP),λ_=>Int.emod_one _]
 | succ i =>
   let#[hl,rfl]:=?aR e;have e1:?wB=?a3J ps i:=?h6;rw[j9 e1];have:=?zS h i ?H O9m hl O9m;exact#[hn _ (?gP),?gQ,this.2]
abbrev Qe[?b0]:Sp:=λvs H Q _=>Ko λ ?e0 ?cW=>By ?pR ?hX ?gT (jS H ?lY Q)
abbrev Op[?i]:Sp:=λvs H Q _=>Tb λ ?bE ?a3 ?cW=>Nm ?f0 ?aP ?l7 (?a55 100) ?wE ((∀q∈ms,?D5)) (jS H (?a3I ms ?lT) Q)
abbrev Qf[?i]:Sp:=λvs H Q _=>Ye (?a7A (AM xs k ms) ?o4)
abbrev Ur[?i]:Sp:=λvs H Q _=>zR λ(a D:Addr) ?a3 ?S ?kP ?wG ?AQ=>Hz (vs=[?N,?cH,?lJ]) ?aP (H D=?cV) (El O H us ps) (nA xs k ps) ?o4
def kX[?x][?bT](k:Int)[?nJ]:AM xs k ?gR :=
 #[(?z8).len,λq hq=>#[?JE,(Cu (Vu hq).1).2.2,(?z8).z q hq]]
def AM.nil[?W]:AM xs k []:=#[?aX,λq hq=>by cases hq]
abbrev MD[?bV](k0 z:Nat):?a5 Nat:=(?cZ z).filter λi=>?k (?cM≠1)
def LY[?W][?uZ][?gY]:Hr (?EB)=(?EA).map (?a2C C0 k):=by
 unfold Hr Ft MD;rw[List.filter_map];rfl
def N5[?bW]{k0 z i:Nat}(h:i∈?EA):i<z/\?cM≠1:=by
 have:=?eJ h;exact#[?i1 ?gQ,qc2 this.2]
def HM[?bV](k0 z:Nat):(?EA).Pairwise (·<·):=?RL _ List.pairwise_lt_range
def RW[?bW]{k0 i:Nat}(h:?G1):0<=?cM:=by
 unfold Lat.numAt;split
 . rename_i q
   exact Int.le_of_lt (h i q)
 . exact qw3 0
def wN[?bW]{k0 i j:Nat}(h:?G1)(ch:?QV)(hij:i<j):(?cM=0->?SO=0)/\(0<?cM->?SO%?cM=0):=by
 unfold Lat.numAt;by_cases hj:j<k0
 . have hi:?i2:=O9m
   have:=h i hi;rw[?o hj,?i5];exact#[λz=>O9m,λ_=>Int.emod_eq_zero_of_dvd (ch i j hi hij hj)]
 . rw[?j hj];exact#[?IW,λ_=>Int.zero_emod _]
def Rm.holes[?n][?R][?v8][?bT]:nA xs k ?fD:=by
 ext uU;rw[LY];apply#[?bY,?_]
 . ext uX;let#[hz,h1]:=N5 hi;apply#[?w8,?w8,?_,λe=>?_,RW ?pH,h1]
   . show AM xs ?a6 ?n4;split
     . exact AM.nil _ _
     . exact ?w8
   . show ?n4=[]
     exact ?b1
 . rw[qt1];exact(?P5).imp λhij=>wN ?pH bl.ch hij
def Rm.rounds[?n][?R][?v8][?aN][?bT]:IP xs ?fD:=by
 ext uU;rw[LY];ext a0Y
 have bits:∀(P M:Lat.Mat),?a57 z P->?a57 ?aF M->∀i c,i<z->c<?cP->(?cN z P M i c).natAbs<?uP:=λP M h1 h2 i c hi hc=>Uc λj hj=>by
  ext a0H
 apply#[?bY,λp hp q hq t ht=>?_,λa b p q e1 e2=>?_]
 . ext uX;exact NV hs (bl.lev.round i)
 . ext uX;let ?C6:=?b8 hq;let ?XQ:=Pt ht;have b2:t.2.natAbs<?uP:=by rw[e];exact bits _ _ ?KO bl.bL j c (N5 hj).1 hc
   have b1:(Au (?sG) t.1).natAbs<?uP:=by
    unfold Au;cases eL:lookI (L8 xs k (Lat.turnL z l.1 G i)) t.1 with
    | none=>exact qr4 _
    | some v =>
      let#[_,d,hd,ed]:=Pt (K5 eL);show v.natAbs<_;rw[show v=_ from ed];exact bits _ _ ?DW bl.bG i d (N5 hi).1 hd
   exact Lu b1 b2 (by unfold bookF;omega)
 . rw[qb0]at e1 e2;let ?DD:=qi3.mp e1;let ?C6:=qi3.mp e2;have hi':=(N5 ?J2).1;have hj':=(N5 (qb1 hj)).1;show ?a7H (?sG) (L8 xs k (?cN z l.2 L j))=_;rw[OY,bl.lev.gauge bl.fin.dg.dl hi' hj'];have nd1:=?zS (?P5);let#[la,ea]:=?aR hi;let#[lb,eb]:=?aR hj
   have:i=j↔a=b:=by
    constructor
    . intro e;rcases qk7 a b with h | h | h
      . have:=nd1 a b la lb h;omega
      . exact h
      . have:=nd1 b a lb la h;omega
    . intro e;subst e;exact qa8 (hi.symm.trans hj)
   by_cases q:a=b
   . rw[?fH,?o (this.mpr q)]
   . rw[?d5,?j λz=>q (this.mp z)]
universe Hb
namespace L2
open PySem PySem.Spec PyProof.Rows
universe L2
namespace Hb
open PySem L2
abbrev nL(ns:LLInt):D:=?s (?tQ λn=>?s (E4 n))
section
variable[?i]
universe e9
universe Hb
namespace Lat
open Hb
section
variable[?a19][?bW]
def turn_sum(il:?DH)(c d:Nat):?GW=?a3F (λa=>?eO*L a d):=by
 have e1:?GW=?a3F (λi=>?c (λa=>?c (λb=>?II) z) z):=Ah λi _=>by
  show ?a3F (λj=>?eX*G j c)*?a3F (λj=>PB i j*L j d)=_;rw[←Db];apply ?xG;rw[←Ay];exact ?AV
 rw[e1,B5];apply Ah ?YX;rw[B5]
 have e2:∀b,b<z->?a3F (λi=>?II)=(?LA)*(?eO*L b d):=λb hb=>by
  rw[Db]
  congr 1
  exact il b a hb ha
 rw[Ah e2,?aS ha λb _ ne=>by rw[?j4,qf8],?L,qd8]
def gauge_edge[?F4](ir:?BY){i c:Nat}(hi:i<z)(hc:c<w):?NI=numAt f k i*QB i c:=by
 have e1:∀c',?hD=?a31 ?W8:=λc'=>by
  have:?hD=?a7S (λa=>?a31 (?mD*?z3)):=Ah λa _=>by
   show ?a31 ?mD*?z3=_;rw[←Db];exact ?a5X ?iG
  ext eE;exact Ah λj _=>by rw[Ay];rfl
 have e2:∀y,y<w->?z2=?YJ:=λy hy=>by
  rw[←dg.diag i y hi hy];unfold P8
  have:?z2=?c (λc'=>?a31 (?W8*?pA)) w:=Ah λc' _=>by
   rw[e1,←Db];exact ?a5X ?iG
  ext eE;exact ?a5X ?mC
 have e3:?NI=?sB:=by
  have h1:?sB=?JH:=by
   have:?sB=?c (λy=>?a3N (?tO*?pA)) w:=Ah λy _=>by
    rw[←Db];exact Ah λc' _=>?dO
   ext eE;exact Ah λc' _=>?mC
  rw[h1];have h2:∀c',c'<w->?KQ=?HP:=λc' hc'=>ir c c' hc hc'
  have h3:?JH=?a3N ?HP:=Ah λc' hc'=>by rw[h2 c' hc']
  rw[h3,?aS hc λb _ ne=>by rw[?AH,qd4],?L,qm0]
 have e4:?sB=?c (λy=>(?YJ)*?tO) w:=Ah λy hy=>by rw[e2 y hy]
 rw[e3,e4];ext FC;by_cases hw:i<w
 . rw[?aS hw λb _ ne=>by ext FE,?L];unfold numAt;by_cases hk:i<k
   . rw[?o hk]
   . rw[?j hk,dg.zero i ?g hi hw]
 . rw[?bK λy hy=>by rw[?aE,qf8]];unfold numAt;rw[?aE,qf8]
universe e9
universe Lat
namespace Hb
open PySem L2
def kE(n:Int):∀(ms:Ms) (k:Int),Au ?mZ k=n*?a2:=λms k=>by
 unfold Hv;split
 . rename_i h;rw[h,qf8];rfl
 . induction ms with
   | nil=>rw[qq1,Gd,qd4]
   | cons p ms ih =>
     rw[qc8,Ds,Ds,ih];show(if ?dA then ?iY else _)=_;split<;>rfl
def Vi[?n][?h3]{j:Nat}(hj:j<?cP):Au ?g7 (?g2)=u j:=by
 ext a0A
 have hb:=?NR;ext ZP
 ext a0N
def Gc[?n][?h3]{p:Int}(h:p ∉ ?aV):Au ?g7 p=0:=by
 apply E7 λhm=>h ?_;let ?NH:=?nQ;exact(Vu hr).1
def Uk[?I]:∀(ns ms:Ms),?bD->?a1Z ?dW=?aK+?UP
 | [],ms,_=>by show ?aK=?aK+0;rw[qf6]
 | p::ns,ms,h=>by
   show ?a1Z (?xB)=_;rw[Uk φ ns _ (jT h p.1 p.2),QM φ h,Dj,ql4]
def V9[?I](n:Int)(ms:Ms):?a1Z ?mZ=n*?aK:=by
 unfold Hv;split
 . rename_i h;rw[h,qf8];rfl
 . induction ms with
   | nil=>rw[qq1,Tf,qd4]
   | cons p ms ih =>
     rw[qc8,Dj,Dj,ih];show ?iY*?hQ+_=_
     grind
abbrev uY[?I](q:Int)(p:Bc):Int:=if ?g5 then Au ?e7 q*?a1Z ?e5 else 0
abbrev lfL[?I](q:Int)[?aZ]:Int:=(?fC (uY φ q)).sum
def oY{n:Nat}[?aU][?a17](hg:?C1)[?nI][?I] :
 ?a1Z (?a6R ?T9)=?jS+(if g.1=q then g.2 else 0)*?IO:=by
 unfold lift1;rw[qa1,qp8];by_cases e:g.1=q
 . rw[?o (?NN),?o (by rw[h.1];omega),?b1];show ?a1Z (Em _ _)=_;have h1:=h.at ?AC;rw[Uk φ _ _ h1.n,V9,e]
 . rw[?aE,?cI,qf8,qf6,←qa1]
def CN{n:Nat}{fl:Ms}(hf:Fy fl)[?nI][?I]:∀(gs:Ms) [?aU],?dZ->nd gs->(∀g∈gs,?C1) →
 ?a1Z (?a6R ?QM)=?jS+Au gs q*?IO
 | [],lf,_,_,_=>by rw[List.foldl_nil,Gd,qf8,qf6]
 | g::gs,lf,h,hn,hk=>by
   have hn2:nd gs:=(qg4.mp hn).2;have hg:g.1 ∉ gs.map (·.1):=(qg4.mp hn).1;rw[qr7,CN hf hq φ gs (h.lift1 hf g) hn2 ?CQ,oY h hf g (hk g ?aY) hq,Ds];by_cases e:g.1=q
   . have e2:Au gs q=0:=E7 (e▸hg);rw[?b1,?b1,e2];grind
   . rw[?cI,?cI];grind
def OX{n:Nat}[?aU]{p:Bc}(h:?dZ)(hp:?oN)(hn:?x0)[?nI][?I] :
 ?a1Z ((Q4 lf p).getD ?dX [])=?jS+?U8:=by
 unfold Q4 uY;split
 . exact CN hp.fl hq φ _ h hn hp.gk
 . rw[qf6]
def cN{n:Nat}[?nI][?I]:∀[?aZ] [?aU],?dZ->(?Y6) →
 ?a1Z (?a6R ?wN)=?jS+?QL
 | [],lf,_,_=>by show _=_+0;rw[qf6];rfl
 | ?eY,lf,h,hp=>by
   have h1:=?K7;show ?a1Z (?a6R ?UD)=_;rw[cN hq φ ps (h.part ?g4) (?a54 hp),OX h ?g4 h1.2 hq];show _=_+(?U8+?QL)
   rw[ql4]
def oX{n:Nat}[?fI](hok:?XY)[?nI][?I] :
 ?a1Z ((Cn n ls).getD ?dX [])=?UI:=by
 have:∀[?c7] [?cA],?dZ->(?XY)->?a1Z (?a6R ?xZ)=?jS+?UI:=λls=>by
  induction ls with
  | nil=>intro lf _ _;show _=_+0;rw[qf6];rfl
  | cons ps ls ih =>
    intro lf h hk;have h1:=?WO;rw[qr7,ih _ (h.parts λp hp=>(h1 p hp).1) ?CQ,cN hq φ ps h h1,qc8,qk4,ql4]
 unfold Cn;rw[?a0 ls _ (?PM n) hok]
 have e:?a1Z ((?sF n ([]:Ms)).getD ?dX [])=0:=by
  rw[qa1,qt7];split<;>rfl
 rw[e,qi6]
def CO[?nL]{j:Nat}(hj:?UQ):l.getD j 0∈l:=by rw[qa1,?e6];exact ?C0
def tS[?x](φ:?M2)(u:?t)(p:Int)(m:Nat):?c1 xs (λy=>?a7S (λa=>u a*φ a y)) p=?a7S (λa=>u a*?c1 xs (φ a) p):=by
 unfold face
 have:∀n,?TR=?a7S (λa=>u a*?a3W (λj=>sg j*?vY)):=λn=>by
  have e:?TR=?a3W (λj=>?a7S (λa=>u a*(sg j*?vY))):=Ah λj _=>by
   rw[←Ay];exact ?a3A ?dO
  rw[e,B5];exact ?a3A ?mC
 exact ?a0 _
def SI[?nL](h:l.Nodup){i j:Nat}(hi:?MA)(hj:?UQ)(e:l[i]=l[j]):i=j:=by
 have h1:=?zS h;rcases qk7 i j with q | q | q
 . exact ?aA e (h1 i j hi hj q)
 . exact q
 . exact ?aA ?iK (h1 j i hj hi q)
def J9[?n][?h3](y:Int):Au ?g7 y=?a7P (λa=>u a*ML ?mF y):=by
 by_cases h:y∈?aV
 . let ?pF:=qh5 h;have e1:?g2=y:=?V6
   rw[←e1,Vi hj,?R0 (j:=j) hj λa ha ne=>?_]
   . unfold ML;rw[?L,qm0]
   . unfold ML;rw[?j λz=>ne ?_,qd4];have h1:=Gi xs k;rw[qa1,qa1,?A4,?e6]at z;exact SI h1 ha hj ?d7
 . rw[Gc h]
   symm
   apply ?l8 ?YX;unfold ML;rw[?j λz=>h ?_,qd4];rw[z,qa1,?A4];exact qe4 ha
def tT[?n][?h3]{c:Nat}:?c1 xs (Au (L8 xs ?hC u)) (?kX c 0)=?c (λa=>u a*Oo xs k a c) (?n1):=by
 have e:Au (L8 xs ?hC u)=λy=>?c (λa=>u a*ML (?iF a 0) y) (?n1):=funext λy=>J9 y;rw[e,tS];exact Ah λa _=>by rw[mL];rfl
def sumN_cut[?bV](a:Nat):∀b,?R1=?zR+?c (λi=>f (a+i)) b
 | 0=>by show ?zR=?zR+0;rw[qf6]
 | b+1=>by
   show ?R1+f (a+b)=_+(_+f (a+b))
   rw[?qJ f a b,ql4]
def Ro(φ:?t):∀z,(?XS φ).sum=?KM
 | 0=>rfl
 | z+1=>by
   rw[qk9,qb4,qv2,Ro φ z];show _+(φ z+0)=?KM+φ z;rw[qf6]
def lY(φ:Bc->Int):∀ps:?bL,(?DN φ).sum+(?fC λb=>if b.1=1 then φ b else 0).sum=(?fC φ).sum
 | []=>rfl
 | ?eY=>by
   have ih:=lY φ ps;unfold Hr at ih ⊢;rw[qm2,qc8,qc8,qk4,qk4];by_cases h:?g5
   . rw[?a5E ?j,?d2];omega
   . rw[?a5E ?o,?bO,qc8,qk4];omega
def fY{α:Type}(F:?AF):∀(l:?k1) (k:Nat) (a:α),l[k]?=?d a->(∀j b,l[j]?=?oO->j≠k->F b=0)->?tD=F a
 | [],k,a,e,_=>?TT
 | x::l,0,a,e,h=>by
   have e:x=a:=qa8 e;subst e;rw[qc8,qk4]
   have:?tD=0:=by
    have:∀(l:?k1),(∀b∈l,F b=0)->?tD=0:=λl=>by
     induction l with
     | nil=>intro _;rfl
     | cons y l ih=>intro hl;rw[qc8,qk4,hl y ?aY,ih λb hb=>hl b (qb6 _ hb)];rfl
    apply ?a0 l ?LG;let#[j,hj]:=qf1 hb;exact h ?bG b hj O9m
   rw[this,qf6]
 | x::l,k+1,a,e,h=>by
   rw[qc8,qk4,h 0 x rfl ?g,fY F l k a e λj b hj ne=>h ?bG b hj ?g,qi6]
def bB{α:Type}{F G:?AF}:∀{l:?k1},(∀b∈l,F b=G b)->?tD=(l.map G).sum:=λ{l} h=>by rw[qo2 h]
def uG[?x][?aN]{k:Int}[?jP](e:Int):?XA=Au (L8 xs ?hC (?CH ?aF ?sS v)) e:=by
 ext ER
 by_cases he:e∈?tR
 . let ?PN:=qh5 he;have e1:?iF x 0=e:=by rw[qa1,qa0 hx,ex];rfl
   rw[←e1,Vi (k:=k-1) hx,e1];show ?JZ=_;rw[iK hl];ext a0X;ext a07
 . rw[Gc he];ext a0Q
   have hcb:=Jn hs (k:=k) (ms:=?kN) λq hq=>by
    ext a0G
   ext ZF
def BE[?n]{u v:?t}(h:∀a,a<?cP->u a=v a)(e:Int):Au ?g7 e=Au ?gR e:=by
 rw[J9,J9];exact Ah λa ha=>by rw[h a ha]
section
variable[?n7]
def Sn.lev[?F8]{j:Nat}[?R](e:ls[j]?=?lU):j<4/\ps=?HZ/\?OG:=by
 ext ZV;exact#[hj,rfl,_,_,_,_,_,_,_,h1,rfl]
def Sn.ok[?F8][?bT]:∀ps∈ls,∀p∈ps,?TD/\?x0:=λps hps p hp=>by
 let#[j,hj]:=qf1 hps;let#[_,e,lv]:=?GO;apply#[lv.ok Da p hp,?_];rw[e]at hp;let ?xD:=?rV;exact(?zI).n
def eG[?dG][?uW][?I] :
 ?a1Z ?fX=?c (λi=>uY φ p (?eI)) ?bH:=by
 have h3:=Cu hp;rw[oX (t.ok Da) h3.1,fY (lfL φ p) ls k _ (?tX).2 λj b hj ne=>?_]
 . unfold lfL Ft;rw[qk5,←Ro];rfl
 . let#[hj4,rfl,_]:=?GO;unfold lfL;rw[bB (G:=?h8) ?LG]
   . have:∀(l:?bL),(l.map λ_=>?dL).sum=0:=λl=>by
      induction l with
      | nil=>rfl
      | cons a l ih=>rw[qc8,qk4,ih];rfl
     exact ?a0 _
   . let ?xD:=?DY;unfold uY;have:Au (C0 xs ?c5 ?BO (ks j) ?DE ?BD ?wJ ?zG ?EH i).2.2.1 p=0:=Gc λz=>ne (by have:=(Cu z).2.2;rw[h3.2.2]at this;omega);rw[this,qf8];split<;>rfl
def j7[?F8][?bT](p:Int):Fy ?fX:=by
 have:∀[?c7] [?cA],Hl ?d9 lf->(∀ps∈ls,?CD)->Hl ?d9 (?xZ):=λls=>by
  induction ls with
  | nil=>intro lf h _;exact h
  | cons ps ls ih=>intro lf h hk;exact ih _ (h.parts (?WO)) ?CQ
 exact(?a0 ls _ (?PM _) λps hps p hp=>(t.ok Da ps hps p hp).1).at _
universe e9
abbrev j6(ms:Ms)(n:Int)(ns:Ms):?lB
 | 0=>ms
 | i+1=>?a5D ?f5
def sI[?aT](n:Int)(ns:Ms):∀i,nd ?fG
 | 0=>h
 | i+1=>ED (sI h n ns i) _ _
def jY(ms:Ms)(n:Int)(ns:Ms):∀i,?a2K ?X8 ?X0
 | 0=>?b4
 | i+1=>by
   have h1:=jY ms n ns i;have h2:=?a5D EJ;show ?a3C ?f5;omega
def kG(ms:Ms)(n:Int){ns:Ms}(hn:?m4)(k:Int):∀i,?XM->Au ?fG k=?a2+n*?NQ
 | 0,_=>by
   show ?a2=?a2+n*?q5;rw[Gd,qd4,qf6]
 | i+1,hi=>by
   have ih:=kG ms n hn k i O9m;have e:?jV=?gF:=?KB
   show Au (?f5 ?fG _ _) k=_
   have hnt:nd ?t2:=by
    unfold nd at hn ⊢;rw[qp0];exact hn.sublist (List.take_sublist ..)
   rw[e,Vh];by_cases z:k=?rR
   . subst z;rw[?L,kG ms n hn ?rR i ?g]
     have h1:Au (ns.take i) ?rR=0:=E7 (by
      unfold nd at hnt;rw[qe7,?e3,qb4,qt2]at hnt;intro hm;exact hnt.2.2 _ hm _ (qi9.mpr rfl) rfl)
     have h2:Au ?t2 ?rR=ns[i].2:=by
      unfold Au;rw[E5 hnt (p:=?gF) (qb1 (i:=i) (by rw[qm5,?iN,?e3]))];rfl
     rw[h1,h2,qd4,qf6]
   . rw[?bN,ih]
     have h3:Au ?t2 k=?NQ:=by
      rw[qe7,?e3]
      have:∀(l:Ms),Au (l++[?gF]) k=Au l k:=λl=>by
       induction l with
       | nil=>show Au (?gF::[]) k=?q5;rw[Ds,?j ?HV]
       | cons a l ih=>rw[List.cons_append,Ds,Ds,ih]
      exact ?a0 _
     rw[h3]
abbrev Zq[?b0]:Sp:=λvs H Q _=>Ye λ ?bE ?cY ?C8=>V5 (vs=[?N,?e2,?c0]) ?hX (?a6U ns) (?bD) (?m4) (?a55 400) (ns.length<=400) ((∀q∈ns,?cQ n q.2)) (jS H ?jW Q)
def j5{ms ns:Ms}(hm:?bD)(hn:?m4)(n k:Int):Au ?jW k=?a2+n*Au ns k:=by
 have:=kG ms n hn k ?k9 ?u;rw[qd2]at this;rw[kF (sI hm n ns _),this]
def oJ(n:Nat)[?c7]:(Cn n ls).length=n:=by
 have h1:∀(fl gs:Ms) [?cA],?a4D ?QM lf.length:=λfl gs=>by
  induction gs with
  | nil=>intro lf;rfl
  | cons g gs ih=>intro lf;rw[qr7,ih];unfold lift1;rw[qi4]
 have h2:∀[?aZ] [?cA],?a4D ?wN lf.length:=λps=>by
  induction ps with
  | nil=>intro lf;rfl
  | cons p ps ih =>
    intro lf;show ?a4D ?UD _;rw[ih];unfold Q4;split
    . exact h1 _ _ _
    . rfl
 have h3:∀[?c7] [?cA],?a4D ?xZ lf.length:=λls=>by
  induction ls with
  | nil=>intro lf;rfl
  | cons p ps ih=>intro lf;rw[qr7,ih,h2]
 unfold Cn;rw[h3,qj9]
def sY{ms:Ms}{k v x:Int}(h:x∈(?mU).map (·.1)):x∈?aD (·.1)\/x=k:=by
 by_cases e:x=k
 . exact ?m e
 . apply ?h ?_;let ?wK:=?q7;unfold putI at hp;split at hp
   . ext FL;apply ?rL #[q,hq,?_];split<;>rfl
   . ext FH
     . exact qj7 h
     . exact ?aA (by rw[qi9.mp h]) e
def q9{ms:Ms}(h:?kW){k v:Int}(h0:0<=k)(h1:k<40):UY ?jD:=λp hp=>by
 rcases sY (qj7 hp) with h2 | h2
 . let ?VB:=?b8 h2;rw[←e];exact h q hq
 . rw[h2];exact ?TF
def TF{ms:Ms}(h:?kW)(n:Int){ns:Ms}(hn:UY ns):∀i,?XM->UY ?fG
 | 0,_=>h
 | i+1,hi=>by
   have e:?jV∈ns:=?P9
   exact q9 (TF h n hn i O9m) (hn _ e).1 (hn _ e).2
def UB[?aT](hk:?kW):Fy ?lY:=by
 apply#[?_,?bY,λp hp=>hk p ?DP]
 . unfold nd at h ⊢;exact h.sublist (qu3 _ qr8)
 . have:=(?eJ hp).2;ext cT
def Fy.lp[?FG](n:Int):Fy ?jW:=UB (sI h1.n n ns _) (TF h1.k n h2.k _ ?u)
def MF{ms:Ms}(h:?kW)[?vB](hf:∀f∈fs,?OW)(n:Int):∀j,j<=fs.length->UY ?gW
 | 0,_=>h
 | j+1,hj=>q9 (MF h hf n j O9m) (?R7).1 (?R7).2
def mF[?x](hx:∀i,∀f∈?vL,?OW)(ms:Ms):∀i,UY ?hE
 | 0=>?JS
 | i+1=>MF (mF hx ms i) (hx _) _ _ ?u
def QT[?x][?aN][?bT]:∀i,∀f∈?vL,0<=f/\f<?g1/\f<40:=λi f hf=>by
 rw[qa1]at hf;cases e:xs[i]? with
 | none=>rw[e]at hf;cases hf
 | some y =>
   rw[e]at hf;have ft:=hs i y e;let#[g,eg,_]:=ft.bel f hf;have hl:=ft.low f hf;have:=(?aR eg).1;rw[qd5]at this
   replace this:=qb5 ?a0 ?UO
   omega
def Ar5[?x][?aN][?bT](ms:Ms):Fy (?a3I ms ?lT) :=
 UB (EC xs ms _) (mF (λi f hf=>let h:=QT hs Da i f hf;#[h.1,h.2.2]) ms _)
def V8[?dI](q:Int):Au (?a3I ms ?lT) q=Au ?gM q:=by
 rw[kF (EC xs ms _),Zb];rfl
def qR{α:Type}(F:?AF){l:?k1}{i:Nat}{b:α}(h:l[i]?=?oO):((l.take ?H).map F).sum=((l.take i).map F).sum+F b:=by
 rw[qe7,h,qb4,qv2];show _+(F b+0)=_;rw[qf6]
section
variable[?n7]
def sR[?dG][?uW]:AM xs ?bS ?fX:=by
 have ok:=?wA;apply#[ok.len,?j9];have e1:Au ?fX q.1=q.2:=?a3P ok.n hq
 have hz:=ok.z q hq
 have hm:?LU:=by
  by_cases h:?LU
  . exact h
  . apply ?aA ?_ hz;rw[←e1,←BS q.1 ok.n,?L2];apply ?l8 ?N9;unfold uY;split
    . have:wF ?UY (?eI).2.2.2=0:=by
       show wF ?UY (if ?dR=0 then [] else ?a43 i)=0;split
       . rfl
       . rw[BS q.1 (?zI).n];exact Gc h
      rw[this,qd4]
    . rfl
 have:=Cu hm;exact#[?HT,?r9,hz]
def tD:∀z,z<=40->kB z<=8000:=?bX
universe e9
def vY[?n]{a j:Nat}(ha:a<?cP)(hj:j<?cP)(h:?kX a 0=?g2):a=j:=by
 rw[qa1,qa1,?A4,?e6]at h;exact SI (Gi xs k) ha hj h
def JJ[?x]{k q:Int}(h:?zQ):∃j,j<?cP/\?g2=q:=by
 let ?pF:=qh5 h;exact#[j,hj,?V6]
def DK[?n][?I]:∀{c:Ms},nd c->(∀p∈c,?pC)->?tE=?a7P (λa=>?fN*?p2)
 | [],_,_=>by
   rw[Tf];exact(?l8 λa _=>by rw[Gd,qf8]).symm
 | ?hA,h,hk=>by
   have hn:p.1 ∉ c.map (·.1):=(qg4.mp h).1;have hc:nd c:=(qg4.mp h).2;let ?pF:=JJ (hk p ?aY)
   have e2:?a7P (λa=>Au (?hA) ?mF*?p2)=?a7P (λa=>(if a=j then ?EK else 0)+?fN*?p2):=Ah λa ha=>by
    rw[Ds];by_cases z:a=j
    . subst z;rw[ej,?L,?L,E7 hn,qf8,qf6]
    . rw[?bN,?j λy=>z (vY ha hj (y.symm.trans ej.symm)),qi6]
   rw[Dj,DK φ hc ?T3,e2,Cm,?R0 hj λa _ ne=>?j4,?L]
structure ChL[?W](m:Ms):Prop where
 ok:Fy m
 lv:∀q,q ∉ ?aV->Au m q=0
def Fy.val{m:Ms}(h:Fy m)[?vA](hp:p∈m):Au m p.1=p.2:=?a3P h.n hp
def ChL.key[?n][?v1]:∀p∈m,?pC:=λp hp=>by
 by_cases q:?pC
 . exact q
 . exact ?aA ((h.ok.val hp).symm.trans (h.lv _ q)) (?JA)
def ChL.lvok[?n][?v1]:AM xs k m:=#[h.ok.len,λq hq=>by
 have:=Cu (h.key q hq);exact#[?HT,?r9,?ED q hq]]
def ChL.nil[?W]:?a1W []:=#[Fy.nil,λq _=>Gd q]
def OW[?FG](q:Int):Au ?dW q=Au ms q+Au ns q:=(?T1).2.2.2 q
def ChL.plus[?n][?F1]:?a1W ?dW:=#[h1.ok.plus h2.ok,λq hq=>by rw[OW h1.ok h2.ok,?H9,?X2];rfl]
def ChL.times[?n]{ms:Ms}(h:?SL)(n:Int):?a1W ?mZ:=#[h.ok.times n,λq hq=>by rw[kE,?WG,qd4]]
def ChL.lp[?n][?F1](n:Int):?a1W ?jW:=#[h1.ok.lp h2.ok n,λq hq=>by rw[?YI,?H9,?X2,qd4];rfl]
def ChL.ch[?x][?bT](k:Int)[?nJ]:?a1W ?gR:=#[?z8,λq hq=>Gc hq]
def ChL.wF[?n][?v1][?I]:Hb.wF φ m=?a7P (λa=>Au m ?mF*?p2):=DK φ ?wI h.key
def Zd[?n]{g c:Ms}(hg:?a1W g)(hc:?eM):wI g c=?a7H g c:=by
 show ?a7H c g=_;rw[hg.wF,hc.wF];exact ?a3A ?lH
section
variable[?n]{z k0:Nat}{L G:Lat.Mat}[?jI]
def nV(b:?vT){c:Ms}(hc:?eM)(h0:?j7)(q:Int) :
 ?kC=?a3F (λi=>wF (Au (?sI).2.2.1) c*?JO):=by
 show _=?a3F (λi=>?UT*?QO);by_cases hq:?zQ
 . let ?KI:=JJ hq
   have e1:?a3F (λi=>?UT*Au (?x4) (?kX d 0))=?a3F (λi=>?a7P (λa=>?a6W d)):=Ah λi _=>by
    rw[hc.wF,Vi hd,←Db];exact Ah λa ha=>by rw[Vi ha,qe0]
   have e2:?a7P (λa=>?a3F (λi=>?a6W d))=?a7P (λa=>?a3F (λj=>?fN*(?mD*L j d))):=Ah λa _=>by
    rw[Ay,Ay,Lat.turn_sum (P:=l.1) (PB:=l.2) ?V5]
   have e3:=b.lev.all (λa=>?fN) (λx hx=>by
    have:=h0 (?iF x 0);rw[E6,hc.wF]at this;apply ?t6 (?xG) ?a0;exact ?lH) d hd
   rw[e1,B5,e2,B5];apply e3.trans (?a5X ?_);rw[←Db];exact Ah λa _=>by show ?mD*?fN*L j d=_;rw[qe8 (?mD),qe0]
 . rw[hc.lv q hq];exact(?l8 λi _=>by rw[Gc hq,qd4]).symm
def HW[?h3](n q:Int):Au (L8 xs k λa=>n*u a) q=n*?RF:=by
 rw[J9,J9,←Ay];exact ?a3A ?iG
def CQ[?aN](b:?vT){i:Nat}(h1:?cM≠0)(q:Int) :
 wF (λy=>Ry (?a3K y.toNat) q) (?sI).2.2.2=(?sI).1*?JO:=by
 have hi:?i2:=by
  by_cases h:?i2
  . exact h
  . unfold Lat.numAt at h1;rw[?bO]at h1;omega
 have hf:?cM=f i:=?i5;show wF _ ?n4=?cM*?QO;rw[?rX,←E6,uG hs,?xQ,hf,←HW];exact BE (λa ha=>b.lev.filling (SR hs k) b.fin.dg ?V5 hi a ha) q
universe e9
def wF_sumN(A:?M2)(z:Nat):∀c:Ms,wF (λp=>?a3F (λi=>A i p)) c=?a3F (λi=>wF (A i) c)
 | []=>(?l8 λi _=>rfl).symm
 | ?hA=>by
   rw[Dj,wF_sumN A z c,←Ay,←Cm];exact Ah λi _=>(Dj ..).symm
def lM[?I](n:Int):∀c:Ms,wF (λp=>φ p*n) c=?tE*n
 | []=>(qf8 n).symm
 | ?hA=>by rw[Dj,Dj,lM φ n c,qo5,qe0]
def ND{φ ψ:?kV}{c:Ms}(h:∀p∈c,?hQ=ψ p.1):?tE=wF ψ c:=by
 unfold wF;rw[qo2 λp hp=>by rw[h p hp]]
abbrev cF[?cA](acc:Ms)(p:?b2):Ms:=Em acc (Hv p.2 (?iE))
abbrev Iv[?cA](c:Ms):Ms:=?a7C []
def JX[?aU]{c:Ms}{i:Nat}[?vA](h:c[i]?=?eW):Iv lf (c.take ?H)=Em (Iv lf (c.take i)) (Hv p.2 (?iE)):=by
 unfold Iv;rw[qe7,h,qn1];rfl
def U8[?n][?aU]:∀{c acc:Ms},(∀p∈c,?a1W (?iE))->?m2->?a1W (?a7C acc)
 | [],acc,_,h=>h
 | ?hA,acc,hl,h=>U8 (c:=c) ?sA (?D7 ((hl p ?aY).times p.2))
def HH[?n][?aU][?I]:∀{c acc:Ms},(∀p∈c,?a1W (?iE))->?m2->?a1Z (?a7C acc)=?ZC+wF (λp=>?a1Z (?iU ?gC [])) c
 | [],acc,_,h=>?vE
 | ?hA,acc,hl,h=>by
   show ?a1Z (?a7C (?GC))=_;have h1:=(hl p ?aY).times p.2;rw[HH φ (c:=c) (acc:=?GC) ?sA (?D7 h1),Dj];show ?a1Z (Em acc _)+_=_;rw[?W7,V9,ql4]
abbrev Z8(c:Ms)(acc:Ms)(b:Bc):Ms:=if ?lK then acc else Em acc (Hv (?x5) ?fK)
abbrev restB(c:Ms)[?aZ](acc:Ms):Ms:=?Q0 (Z8 c) acc
def jJ{c acc:Ms}[?R]{i:Nat}{b:Bc}(h:?wB=?oO):?hH c (ps.take ?H) acc=Z8 c (?hH c (ps.take i) acc) b:=by
 unfold restB;rw[qe7,h,qn1];rfl
def gM[?n]{c acc:Ms}{b:Bc}(hb:?BW)(h:?m2):?a1W (Z8 c acc b):=by
 unfold Z8;split
 . exact h
 . exact ?D7 (hb.times _)
def Z9[?n]{c:Ms}:∀[?R]{acc:Ms},(∀b∈ps,?BW)->?m2->?a1W (?hH c ps acc)
 | [],acc,_,h=>h
 | b::ps,acc,hl,h=>Z9 (ps:=ps) ?sA (gM (?WR) h)
def GN[?n]{c:Ms}[?I]:∀[?R]{acc:Ms},(∀b∈ps,?BW)->?m2->?a1Z (?hH c ps acc)=?ZC+(?fC λb=>if ?lK then 0 else ?x5*?a1Z ?fK).sum
 | [],acc,_,h=>?vE
 | b::ps,acc,hl,h=>by
   have hb:=?WR;show ?a1Z (?hH c ps (Z8 c acc b))=_;rw[GN φ (ps:=ps) ?sA (gM hb h),qc8,qk4,←ql4]
   congr 1
   unfold Z8;split
   . exact ?vE
   . rw[?W7,V9]
abbrev Fk(c:Ms)(b:Bc):Int:=if ?lK then ?gD else ?gD%b.1
section
variable[?n7]
def N1[?dG][?uW]:?a74 ?fX:=by
 have ok:=?wA;apply#[ok,?j9];have lv:=sR t Da hk hp;by_cases h:?PS=0
 . exact h
 . let ?HG:=?b8 (y4 h);have:=lv.part u hu;exact ?aA (Pc (by rw[←eu];exact this.1.1) (by rw[←eu];exact this.1.2) (by rw[←eu];exact ?lO)) hq
def OJ[?aN][?dG]{c:Ms}[?FR](q:Int) :
 ?a4B (Iv (?hM) c) q=?VC:=by
 rw[E6];unfold Iv;rw[HH (xs:=xs) (k:=?j0) _ (?a5B p) ?X5,Tf,qi6];have e1:wF (λp=>wF (λp=>Ry (?hT) q) ?fX) c=wF (λp=>?c (λi=>uY (λp=>Ry (?hT) q) p (?eI)) ?bH) c:=ND λp hp=>eG t Da hk (hc.key p hp) _;rw[e1,wF_sumN];apply Ah ?N9;unfold uY;by_cases h:?YA
 . rw[?d2];simp only[h,if_true];rw[lM,CQ hs ?oY (by show ?k7 _ _ _≠0;have:?dR=1:=h;omega),h,qd8]
 . rw[?bO];simp only[h,if_false];exact DJ ?W4
def QO[?aN][?dG][?R][?v2]{c:Ms}[?FR](h0:?j7)(hf:∀b∈?lN,?a74 ?fK)(q:Int) :
 ?a4B (?hH c ?fD (Iv (?hM) c)) q+(?DN ?DS).sum=?kC:=by
 let#[bl,e]:=?tX;rw[e]at hp;cases hp;have hl:?a74 (Iv (?hM) c):=U8 (?a5B p) ?X5;rw[E6,GN _ hf hl,←E6,OJ hs t Da hk hc,nV bl hc h0 q,ql4];generalize hB:Ft xs ?S ?bH ?CW (Ls k) ?zB ?yB (lp k) (rp k)=ps
 have mem:∀b∈ps,b.1≠0->?HO=b.1*?sW:=λb hb h=>by
  rw[←hB]at hb;let ?xD:=?DY;exact CQ hs bl h q
 have s1:?c (λi=>?oC*Au (?eI).2.1 q) ?bH=(?fC ?A3).sum:=by
  rw[←hB];unfold Ft;rw[qk5,←Ro];rfl
 have s2:?VC=(?fC λb=>if b.1=1 then ?BF else 0).sum:=by
  rw[←hB];unfold Ft;rw[qk5,←Ro];rfl
 rw[s1,s2,←lY (?A3) ps,Int.add_comm]
 congr 1
 have:∀qs:?bL,(∀b∈qs,b∈ps)->(?wX λb=>?W1).sum+(?wX ?DS).sum=(?wX ?A3).sum:=λqs=>by
  induction qs with
  | nil=>intro _;rfl
  | cons b qs ih =>
    intro hm;have ih:=ih (?a54 hm);simp only[qc8,qk4]
    have hb:(?W1)+?WC=?BF:=by
     unfold Fk;by_cases h:?lK
     . rw[?d2,?d2,qi6]
     . rw[?bO,?bO,mem b (hm b ?aY) h];have:=Int.mul_ediv_add_emod (?gD) b.1;generalize ?gD=w at this;rw[←qe0,←qo5,qe8 (w / b.1),this]
    omega
 exact ?a0 _ λb hb=>(?eJ hb).1
universe e9
universe Hb
namespace Lat
open Hb
section
variable{m w k0:Nat}{B g ρ Q QB:Mat}[?bW]{r:?r}
universe e9
universe Lat
namespace L2
open PySem PySem.Spec PyProof.Rows
abbrev At5:Int:=reduceHash (Builtin.Tuple.tupleHashOf [hashInt 0])
abbrev hsh:V->Int
 | ?bI=>hashInt i
 | ?r1=>if b then 1 else 0
 | ?dQ=>0xFCA86420
 | ?f _=>At5
 | _=>0
section
variable[?n8]{s:Shared}
universe e9
section
variable{X:Cx}[?nC]{a:Addr}{y v:V}{u r:Value}[?a1D]{o:Obj}{kvs:?a58 V}
universe e9
section
variable[?n8]{s:Shared}
universe e9
section
variable{X:Cx}{o i e value:Expr}{pos pos' tpos:Pos}{td ty tv:TE}
universe e9
section
variable[?n8]{s:Shared}
universe e9
section
variable{X:Cx}[?Q]
universe e9
section
variable{X:Cx}[?a1D][?nC]{a:Addr}{o:Obj}{kvs:?a58 V}{y v:V}{u r:Value}
universe e9
universe L2
namespace Hb
open PySem L2
section
variable[?i]
universe e9
def xS{lot:?y}{p:Int}(h0:0<=p)(h:p<(lot.length:Int)):BP (lot.map ?X) p=?a2V (lot.getD ?gC 0):=by
 have h1:(lot.map ?X)[p.toNat]?=?a2V (lot.getD ?gC 0):=by
  rw[qb0,qa1,?e3];rfl
 have:=Bo h1
 rwa [show((p.toNat:Nat):Int)=p by omega]at this
universe Hb
namespace L2
open PySem PySem.Spec PyProof.Rows PySem.SeqAt
inductive uO[?i](x:V)(y:V)(H:Hp)(Q:VK):Prop
 | mk:∀(l m:Addr) (vs ws:?v),(x=?f l)->(y=?f m)->(?a4U l vs)->(?a4U m ws)->(zI K H vs ws)->(?o9)->?RC
abbrev YJ[?i]:R2:=λx y H Q=>?RC
def oA{X:Cx}[?FQ]:P9 X ?HA (YJ X.K):=by
 intro Ae s σ H x y v u Q I rx ry h;let#[l,m,vs,ws,rfl,rfl,hl,hm,L,q]:=h;cases rx;cases ry;let#[its,rv,p,_]:=?DG hl;let#[its',cB,p',_]:=?DG hm;have l1:=rv.length;have l2:=cB.length;have l3:=L.1;have main:=RcAt.tuples (A:=X.A) (s:=s) (e:=?MM) p p' O9m (Af3 I hu rv cB L);have e0:((?cZ (min ?zU its'.toArray.size)).all (?MM)&&its.toArray.size==its'.toArray.size)=true:=?o1
 rw[e0]at main;exact main ?sR X.w X.xe _ ?CZ
def jZ{X:Cx}[?Q][?FQ][?FX]:P9 X ?HA (YJ K):=by subst hK;exact oA hu
universe L2
namespace Hb
open PySem L2
abbrev AF:Nat:=?rP+40
abbrev pZ:Nat:=?rP+220
abbrev IL:Nat:=bookF+180
def K4(n:Nat):(0:Int).natAbs<?gH:=qr4 n
def Fl{i:Int}{m n:Nat}(h:i.natAbs<2 ^ m)(hn:m<=n):i.natAbs<?gH:=qb5 h (qe6 ?bA hn)
structure V2[?W](b:Bc):Prop where
 r:ChL xs k b.2.1
 g:?a1W ?DO
 f:ChL xs ?a6 ?fK
 rb:∀q,?a5A ?sW ?AN
 gb:?a35 ?DO ?AN
 fb:?a35 ?fK ?s9
 nn:0<=b.1
 nb:b.1.natAbs<?sJ
def Pr[?n][?h3]{n:Nat}(h:∀a,a<?cP->(u a).natAbs<?gH)(q:Int):?a5A ?RF ?gH:=by
 by_cases hq:?zQ
 . let ?KI:=JJ hq;rw[Vi hd];exact h d hd
 . rw[Gc hq];exact K4 n
section
variable[?n7]
def Wu[?dG]{i:Nat}(hi:i<zs k):V2 xs ?S (?eI):=by
 have bl:=?oY;have pcl:∀j:Int,?a6E j<=40:=λj=>?wV;have hz:zs k<=40:=qa5 bl.zm (pcl _)
 have bits:∀(P M:Lat.Mat),?cF ?bH ?bH ?bB P->?cF ?bH ?i4 ?bB M->∀c,c<?BB->(?cN ?bH P M i c).natAbs<?AN:=λP M h1 h2 c hc=>by
  apply Fl (m:=?I6+zs k) (Uc ?fQ) (by unfold AF;omega);ext a0H
 apply#[?vC,?vC,?_,Pr (bits _ _ ?KO bl.bL),Pr (bits _ _ ?DW bl.bG),?_,RW ?pH,?_]
 . show ?a74 (if ?dR=0 then [] else ?a43 i);split
   . exact ?C9 _ _
   . exact ?vC
 . intro q;show(Au (if ?dR=0 then [] else ?a43 i) q).natAbs<_;split
   . rw[Gd];exact K4 _
   . rename_i h0
     have hik:?m7:=by
      by_cases h:?m7
      . exact h
      . exact ?aA (?vS) h0
     exact Pr (λa ha=>?IC i a (qb5 hik bl.kw) ha) q
 . show ?a5A ?dR ?sJ;by_cases h:?m7
   . have h1:?dR=fs k i:=?d2;have h2:=bl.fin.dg.le h;have h4:?O5<=?UN:=qe6 O9m (tD ?bH hz);have h5:?UN<?sJ:=qg8 O9m O9m;have h6:=?pH i h;rw[h1];have:(fs k i).natAbs<=?O5:=O9m
     exact qc1 (qa5 ?a0 h4) h5
   . rw[?vS];exact qr4 _
def c6[?dG][?R][?v2]:∀b∈ps,V2 xs ?S b:=λb hb=>by
 ext a0E;exact Wu t Da hk (?iV)
def oK[?dG][?uW](q:Int):(?PS).natAbs<2 ^ (?JI+40):=by
 have bl:=?oY;have hz:zs k<=40:=?C3;rw[←BS q (?wA).n,?L2];apply Fl (m:=?JI+zs k) (Uc ?hR) O9m;have pb:=?UF;unfold uY;split
 . rw[BS q pb.f.ok.n];exact Ud (pb.gb p) (pb.fb q)
 . exact K4 _
def KG[?aN][?dG][?R][?v2]{D c:Ms}[?a0J][?FR](ec:∀q,?kC=Au (?hI) q){b:Bc}(hb:b∈ps) :
 ∃X:Int,?gD=b.1*X/\?VL:=by
 ext a0E;have hi:=?iV;have bl:=?oY;have pb:=?UF;have hw:?oI<=40:=?wV
 have e1:?oC=?UE:=by
  have e2:?oC=?a7H c ?tY:=(Zd pb.g hc).symm;have hcb:=Jn hs (k:=?j0) (ms:=D) λq hq=>let h:=Cu (hD.key q hq);?NU
  have hbk:∀p∈?hI,p.1∈?O0:=λr hr=>by
   ext EV;have h2:?a4C (?t4=?j0-1):=?g4;ext ZW
  have hnb:nd (?hI):=?OY;rw[e2,←DL,pb.g.wF,?QI];exact Ah λa _=>by rw[ec,qe8]
 have e3:?UE=?dR*?c (λd=>Au D (?a7G ?vR d)*(if ?m7 then(rp k).2 i d else 0)) (?oI):=by
  rw[hD.wF,←Ay];apply Ah λd hd=>?_;have h1:=tT (xs:=xs) (k:=?j0) (u:=?cN ?bH (lp k).1 ?zB i) (c:=d);rw[show ?j0-1=k by omega]at h1;have h2:?c1 xs (Au ?tY) (?a7G ?vR d)=?dR*(rp k).2 i d:=?OQ (Lat.gauge_edge bl.fin.dg bl.fin.ir hi hd);rw[h2];by_cases h:?m7
  . rw[?d2];grind
  . rw[?bO,?vS];grind
 apply#[_,e1.trans e3,Fl (m:=136+bookF+?oI) (Uc λd hd=>Ud (bD _) ?_) O9m];split
 . rename_i h
   exact bl.fin.br.2 i d (qb5 h bl.kw) hd
 . exact K4 _
universe e9
def ChL.chain[?n]{c:Ms}(h:?eM):?q4 xs k c=true:=by
 unfold chainB;rw[qd3];intro p hp;have:=Cu (h.key p hp);have hz:=?JA;unfold Jc;rw[qb7];apply#[?_,qf2 hz];show(?k (?fB)&&?k (?E7)&&?k (?a5V ?kF=k))=true;rw[qf2 ?gQ,qf2 ?lO,qf2 ?r9];rfl
def uF[?x][?aN]{k:Int}{c:Ms}(h:?eM)(hz:?j7):?jZ=[]:=by
 have hcb:=Jn hs (k:=k) (ms:=c) ?HL
 cases e:B7 xs c with
 | nil=>rfl
 | cons r l =>
   have hm:r∈?jZ:=by rw[e];exact ?jU
   have h1:=?yR hcb r hm;unfold Jc at h1;rw[qb7]at h1;have h2:=qc2 h1.2;have hn:nd (?jZ):=J6 xs c _;have h3:Au (?jZ) r.1=r.2:=by unfold Au;rw[?GF];rfl
   exact ?aA (h3.symm.trans (hz r.1)) h2
def qM[?n][?F1](n:Int)[?I]:?a1Z ?jW=?aK+n*?UP:=by
 rw[(h1.lp h2 n).wF,h1.wF,h2.wF,←Ay,←Cm];exact Ah λa _=>by rw[?YI,qo5,qe0]
structure iQ[?W][?aZ](c:Ms):Prop where
 ch:?eM
 z:?j7
 b:∀q,?XG<2 ^ pZ
 w:∀p∈ps,∃n X:Int,?DK=n+p.1*X/\n.natAbs<?CV/\X.natAbs<?CV
def iQ.div[?n][?R]{c:Ms}(h:iQ xs k ps c){p:Bc}(hp:p∈ps)(pb:?oK)(h0:p.1≠0):∀t∈?e5,?cQ (?XC) t.2:=λt ht=>by
 let#[n,X,e,hn,hX]:=h.w p hp;have nn:=pb.nn;have e1:?XC=n / p.1+X:=by rw[e,Int.add_mul_ediv_left _ _ h0]
 have e2:(n / p.1).natAbs<?CV:=Lat.fdiv_small O9m hn;have e3:=LB e2 hX;rw[e1,←pb.f.ok.val ht];exact Lu e3 (pb.fb _) (by unfold IL bookF;decide)
section
variable[?i]
abbrev GA[?b0]:Sp:=λvs H Q _=>vD λ ?bE ?AQ ?a3 ?S (wu:?v) (lf:?fO) ?vG=>ZS ?f0 (O a=?a27 wu) (Gg (λ_=>none) O wu lf) (?F O H) (?YY) (?a6U c) (?eM) (lf.length=xs.length) ?cL (∀p∈c,ChL xs ?a6 (?iE)/\∀t∈?iE,?cQ p.2 t.2) (jS H (Iv lf c) Q)
abbrev Sw:Sp:=λvs H Q _=>Ye λ ?bE ?a3 ?CN ?vG=>V5 ?f0 ?aP ?i0 ?cL (?a6U c) (k<4) (?I4) (?j7) (∀H',?Z->?b7)
structure fP[?W][?aZ](c m:Ms):Prop where
 ch:ChL xs ?a6 m
 sum:∀q,?a4B m q+(?fC ?DS).sum=?kC
abbrev GD(C:Addr):Sp:=λvs H Q _=>vD λ(p b:Addr) ?CN (B:Hp) ?a3 ?wC ?wG ?vG=>V5 (vs=[?aW,?e ?S,?c0]) (?zV) ?QW (B b=none) (k<4) (?sH) (?a6U c) (iQ xs ?S ?fD c)
 (∀(T N D:Addr) (m:Ms) (H':Hp),?a5U T->?a5U N->?b6->T≠N->T≠D->N≠D->?Z->H' T=?d (?D [?f N,?lJ])->H' N=?a27 ((?DN (Fk c)).map ?X)->?dK=?s6->fP xs ?S ?fD c m->Q (?f T) H')
universe e9
def ChL.put[?n][?v1][?bT]{p v:Int}(hp:?BC)(hv:v≠0):?a1W (?f5 m p v):=by
 have:=Cu hp;apply#[#[ED ?wI _ _,rV ?ED hv,q9 h.ok.k ?gQ O9m],?j9];rw[Vh,?j λ(z:q=p)=>hq (z▸hp)];exact ?WG
def ChL.edge[?x][?aN][?bT]{k:Int}{D:Ms}(h:ChL xs ?a6 D):?XB/\∀φ,Hb.wF φ (?a3I D D.length)=Hb.wF φ (?hI):=by
 have hcb:=Jn hs (k:=k+1) (ms:=D) ?HL
 have hbk:∀p∈?hI,?pC:=λr hr=>by
  ext EV;have h2:?a4C (?t4=k+1-1):=?g4;ext ZW
 have hc:?XB:=#[Ar5 hs Da D,λq hq=>by
  rw[V8]
  exact E7 λz=>by
   let ?HG:=?b8 z;exact hq (eu▸hbk u hu)]
 have hnb:nd (?hI):=?OY;apply#[hc,λφ=>?_];rw[hc.wF,?QI];exact Ah λa _=>by rw[V8]
structure Hm[?W](hs:?bL)(j:Nat)(ns:?y)(c:Ms):Prop where
 len:ns.length=j
 nb:∀n∈ns,?zH
 ch:?eM
 z:?j7
 b:∀q,?XG<2 ^ (?rP+178+j)
 w:∀(i:Nat) p,?BT->∃X:Int,?DK=(if i<j then ?e1 else 0)+p.1*X/\?VL
def Hm.first[?n7][?aN][?dG][?R][?v2]{D:Ms}[?a0J] :
 Hm xs ?S ?fD 0 [] (?a3I D D.length):=by
 let#[hc,hw]:=hD.edge hs Da;apply#[rfl,λn hn=>by simp at hn,hc,?iO,?iO,λi p hi=>?_]
 . rw[E6,hw,←E6,CZ hs λp hp=>let h:=Cu (hD.key p hp);#[h.1,h.2.1]];rfl
 . rw[V8,E6,hD.wF];apply Fl (m:=138+?oI) (Uc ?KA) ?_
   . apply Fl (m:=136+2) (Ud (bD _) ?_) O9m;have h4:=Rt hs;apply qc1 (lV ?_ q) (by decide);rw[qa1];cases e:xs[((C3 xs ((k:Int)+1)).getD a 0).toNat]? with
     | none=>ext dJ
     | some x=>exact ?CC
   . have:=E3 xs ?bS ?d9;show 138+(U2 xs ?bS ?d9).length<=_;unfold bookF;omega
 . let ?y3:=KG hs t Da hk hp hD bD hc (λq=>V8 xs D q) (?eJ ?J2).1;exact#[X,by rw[e,?aE,qi6],hX]
def Hm.next[?n][?h2]{j:Nat}{ns:?y}{c:Ms}(h:Hm xs k hs j ns c)(hr:IP xs hs){p:Bc}(hp:hs[j]?=?eW)(pb:?oK){n:Int}(hn:?zH):Hm xs k hs ?bG (ns++[n]) (Dh (j6 c n ?f8 ?IX)):=by
 have hl:=h.len;apply#[by rw[qc6,hl];rfl,?JG,h.ch.lp pb.r n,?iO,?iO,λi b hi=>?_]
 . rcases ql0.mp hx with hx | hx
   . exact h.nb x hx
   . rw[qi9.mp hx];exact hn
 . have h1:=h.z q;have h2:=V8 xs ?f8 q;rw[hr.rnd p (qb1 hp),Gd]at h2;rw[E6]at h1 h2 ⊢;rw[?OA,h1,←h2,qd4];rfl
 . rw[j5 ?VA pb.r.ok.n];have e1:(n*Au ?f8 q).natAbs<2 ^ (?rP+178+j):=Fl (Ud hn (pb.rb q)) (by unfold AF;omega);exact LB ?DR e1
 . let ?y3:=h.w i b hi;apply#[X,?_,hX];rw[?OA,e,hr.dual i j b p hi hp];by_cases z:i=j
   . subst z;have e2:(ns++[n]).getD i 0=n:=by rw[qa1,qd1 ?g,hl,qh8];rfl
     rw[?aE,?L,?iN,e2];omega
   . rw[?bN,qd4,qf6];by_cases y:i<j
     . have e2:(ns++[n]).getD i 0=?e1:=by rw[qa1,?oD,←qa1]
       rw[?o y,?iN,e2]
     . rw[?j y,?aE]
abbrev HY(p:Bc)(n:Int):Int:=if 0<p.1 then n%p.1 else n
def Hm.due[?n][?h2][?nA]{i:Nat}{p:Bc}(hp:?BT)(nn:?fB):?wO=?Y8:=by
 have hi:=(?aR hp).1;let#[X,e,_]:=h.w i p hp;rw[?i5]at e;unfold Fk HY;rw[e];by_cases z:?rC
 . rw[?bM,?aE,z,qf8,qf6]
 . rw[?bN,?iN,Int.add_mul_emod_self_left]
def Hm.dues[?n][?h2]{ns ds:?y}{c:Ms}(h:?H0)(nn:∀p∈hs,?fB)(hl:ds.length=hs.length)(hd:∀(i:Nat) p,?BT->ds[i]?=?d (?Y8)):ds=hs.map (Fk c):=by
 apply qp9 λi=>?_;rw[qb0];cases e:hs[i]? with
 | none =>
   have:=List.getElem?_eq_none_iff.mp e;exact qh4 O9m
 | some p=>rw[hd i p e,←h.due e (nn p ?tG)];rfl
def Hm.at[?h2][?n][?nA](i:Nat):?a5A ?e1 ?rF:=by
 rw[qa1];cases e:ns[i]? with
 | none=>exact K4 _
 | some n=>exact h.nb n ?tG
def Hm.ok[?n][?h2][?nA](h40:?yY):iQ xs k hs c:=by
 apply#[h.ch,h.z,λq=>Fl ?DR (by unfold pZ;omega),?bY];ext ZY;exact#[_,X,e,?a5I (h.at i),Fl hX (by unfold IL;omega)]
def Hm.many[?n][?h2][?nA](h40:?yY){m:Int}(hm:m.natAbs<2 ^ 2):iQ xs k hs (Dh (j6 [] m c c.length)):=by
 have hc:=(?yS).lp h.ch m;have hw:∀φ,?a1Z (Dh (j6 [] m c c.length))=m*?tE:=λφ=>by rw[qM (?yS) h.ch,Tf,qi6]
 apply#[hc,?iO,?iO,?bY]
 . have:=h.z q;rw[E6]at this ⊢;rw[hw,this,qd4]
 . rw[j5 (?yS).ok.n ?VA,Gd,qi6];exact Fl (Ud hm ?DR) (by unfold pZ;omega)
 . ext ZY;apply#[m*?e1,m*X,?_,?a5I (Ud hm (h.at i)),Fl (Ud hm hX) (by unfold IL;omega)];rw[hw,e,Int.mul_add]
   grind
def Hm.mul[?n][?h2][?nA]{p:Bc}(hp:p∈hs)(pb:?oK):?OX:=λt ht=>by
 let ?o0:=qf1 hp;have nn:=pb.nn
 have e:?a5A ?wO ?sJ:=by
  rw[h.due hi nn];unfold HY;split
  . rename_i h0
    have m0:=qk1 ?oG (b:=p.1) O9m;have m1:=qh9 ?oG h0;have:=pb.nb;omega
  . exact Fl (h.at i) ?bA
 rw[←pb.r.ok.val ht];exact Lu e (pb.rb _) (by unfold AF bookF;decide)
section
variable[?i]
abbrev Zm[?b0]:Sp:=λvs H Q _=>Ea λ(c:Int)=>Ba6 (vs=[?e c]) (∀n:Int,?zH->Q (?e2) H)
abbrev BW:Sp:=λvs H Q _=>Ye λ ?bE ?a3 ?S (cs:?y)=>Hz ?rW ?aP ?cL (?a37 b (cs.map ?X)) (cs.length<=100) (∀(D:Addr) (m:Ms) (H':Hp),?b6->?Z->?dK=?s6->?RM->(?a35 m ?rF)->?dD)
abbrev bW:Sp:=λvs H Q _=>Ba3 λ(a hd b d t N D:Addr) ?AQ ?a3 ?S ?kP (hs:?bL) (c m:Ms)=>uV (vs=[?N,?cH,?f hd,?c0,?f d,?eL]) ?aP ?i0 ?cL (H hd=?cV/\?yY) (El O H us hs) (∀p∈hs,?oK/\?OX) (?a6U c/\?eM) (?a72 d) (H t=?d (?D [?f N,?lJ])) (?a72 N) (H D=?s6) (fP xs k hs c m) ?o4
universe e9
def F7{S:St}{p0:?aL}[?E](k:∀H,p0 H->?ZA):?a1N (σ=S/\p0 H):=by
 rintro _ H ⟨rfl,h0⟩;exact k H h0
def LK{S:St}{p0 p1:?aL}[?E](k:∀H,p0 H->p1 H->?ZA):?a1N (Ev (σ=S) (p0 H) (p1 H)):=by
 rintro _ H ⟨rfl,h0,h1⟩;exact k H h0 h1
def At0[?c8]{p0:?fM}[?E](k:∀x0 H,?hV->?iJ):?a1N (Ea λx0=>?mJ/\p0 x0 H):=by
 rintro _ H ⟨x0,rfl,h0⟩;exact k x0 H h0
def Sq[?c8]{p0 p1:?fM}[?E](k:∀x0 H,?hV->?kR->?iJ):?a1N (?a7J ?hU ?m1):=by
 rintro _ H ⟨x0,rfl,h0,h1⟩;exact k x0 H h0 h1
def Mf[?c8]{p0 p1 p2:?fM}[?E](k:∀x0 H,?hV->?kR->?rI->?iJ):?a1N (Ea λx0=>By ?eR ?hU ?m1 ?rH):=by
 rintro _ H ⟨x0,rfl,h0,h1,h2⟩;exact k x0 H h0 h1 h2
def LJ[?c8]{p0 p1 p2 p3:?fM}[?E](k:∀x0 H,?hV->?kR->?rI->?zM->?iJ):?a1N (Ea λx0=>C9 ?eR ?hU ?m1 ?rH (p3 x0 H)):=by
 rintro _ H ⟨x0,rfl,h0,h1,h2,h3⟩;exact k x0 H h0 h1 h2 h3
def As9[?c8]{p0 p1 p2 p3 p4:?fM}[?E](k:∀x0 H,?hV->?kR->?rI->?zM->?J0->?iJ):?a1N (Ea λx0=>Hz ?eR ?hU ?m1 ?rH (p3 x0 H) ?QX):=by
 rintro _ H ⟨x0,rfl,h0,h1,h2,h3,h4⟩;exact k x0 H h0 h1 h2 h3 h4
def lJ[?c8]{p0 p1 p2 p3 p4 p5:?fM}[?E](k:∀x0 H,?hV->?kR->?rI->?zM->?J0->p5  x0 H->?iJ):?a1N (Ea λx0=>Nm ?eR ?hU ?m1 ?rH (p3 x0 H) ?QX (p5 x0 H)):=by
 rintro _ H ⟨x0,rfl,h0,h1,h2,h3,h4,h5⟩;exact k x0 H h0 h1 h2 h3 h4 h5
def QK[?dH]{p0:?tL}[?E](k:∀x0 x1 H,?qQ->?sZ):?a1N (Ko λx0 x1=>?jT/\?qZ):=by
 rintro _ H ⟨x0,x1,rfl,h0⟩;exact k x0 x1 H h0
def yD[?dH]{p0 p1:?tL}[?E](k:∀x0 x1 H,?qQ->?x8->?sZ):?a1N (Ko λx0 x1=>Ev ?j8 (?qZ) (?a6S p1)):=by
 rintro _ H ⟨x0,x1,rfl,h0,h1⟩;exact k x0 x1 H h0 h1
def qK[?dH]{p0 p1 p2 p3:?tL}[?E](k:∀x0 x1 H,?qQ->?x8->?O7->?HX->?sZ):?a1N (Ko λx0 x1=>C9 ?j8 (?qZ) (?a6S p1) (?a6S p2) (?a6S p3)):=by
 rintro _ H ⟨x0,x1,rfl,h0,h1,h2,h3⟩;exact k x0 x1 H h0 h1 h2 h3
def As8[?dH]{p0 p1 p2 p3 p4 p5 p6:?tL}[?E](k:∀x0 x1 H,?qQ->?x8->?O7->?HX->?a51 p4->?a51 p5->?a51 p6->?sZ):?a1N (Ko λx0 x1=>fQ ?j8 (?qZ) (?a6S p1) (?a6S p2) (?a6S p3) (?a6S p4) (?a6S p5) (?a6S p6)):=by
 rintro _ H ⟨x0,x1,rfl,h0,h1,h2,h3,h4,h5,h6⟩;exact k x0 x1 H h0 h1 h2 h3 h4 h5 h6
def As7[?cS]{p0:?h7}[?E](k:∀x0 x1 x2 H,?hN->?i3):?a1N (Nl λx0 x1 x2=>?zP/\?Q4):=by
 rintro _ H ⟨x0,x1,x2,rfl,h0⟩;exact k x0 x1 x2 H h0
def YC[?cS]{p0 p1:?h7}[?E](k:∀x0 x1 x2 H,?hN->?kJ->?i3):?a1N (Nl λx0 x1 x2=>Ev ?e8 ?l0 ?mB):=by
 rintro _ H ⟨x0,x1,x2,rfl,h0,h1⟩;exact k x0 x1 x2 H h0 h1
def LI[?cS]{p0 p1 p2:?h7}[?E](k:∀x0 x1 x2 H,?hN->?kJ->?oV->?i3):?a1N (Nl λx0 x1 x2=>By ?e8 ?l0 ?mB ?sM):=by
 rintro _ H ⟨x0,x1,x2,rfl,h0,h1,h2⟩;exact k x0 x1 x2 H h0 h1 h2
def yC[?cS]{p0 p1 p2 p3:?h7}[?E](k:∀x0 x1 x2 H,?hN->?kJ->?oV->?AM->?i3):?a1N (Nl λx0 x1 x2=>C9 ?e8 ?l0 ?mB ?sM (?a6Q p3)):=by
 rintro _ H ⟨x0,x1,x2,rfl,h0,h1,h2,h3⟩;exact k x0 x1 x2 H h0 h1 h2 h3
def YB[?cS]{p0 p1 p2 p3 p4:?h7}[?E](k:∀x0 x1 x2 H,?hN->?kJ->?oV->?AM->?R3->?i3):?a1N (Nl λx0 x1 x2=>Hz ?e8 ?l0 ?mB ?sM (?a6Q p3) (?a6Q p4)):=by
 rintro _ H ⟨x0,x1,x2,rfl,h0,h1,h2,h3,h4⟩;exact k x0 x1 x2 H h0 h1 h2 h3 h4
def As6[?cS]{p0 p1 p2 p3 p4 p5:?h7}[?E](k:∀x0 x1 x2 H,?hN->?kJ->?oV->?AM->?R3->?a3L p5->?i3):?a1N (Nl λx0 x1 x2=>Nm ?e8 ?l0 ?mB ?sM (?a6Q p3) (?a6Q p4) (?a6Q p5)):=by
 rintro _ H ⟨x0,x1,x2,rfl,h0,h1,h2,h3,h4,h5⟩;exact k x0 x1 x2 H h0 h1 h2 h3 h4 h5
def As5[?jG]{p0:?rD}[?E](k:∀x0 x1 x2 x3 H,?p5->?q2):?a1N (Tb λx0 x1 x2 x3=>?E0/\?o2):=by
 rintro _ H ⟨x0,x1,x2,x3,rfl,h0⟩;exact k x0 x1 x2 x3 H h0
def As4[?jG]{p0 p1 p2:?rD}[?E](k:∀x0 x1 x2 x3 H,?p5->?vQ->?AZ->?q2):?a1N (Tb λx0 x1 x2 x3=>By ?qF (?o2) (?a6K p1) (?a6K p2)):=by
 rintro _ H ⟨x0,x1,x2,x3,rfl,h0,h1,h2⟩;exact k x0 x1 x2 x3 H h0 h1 h2
def YA[?jG]{p0 p1 p2 p3 p4:?rD}[?E](k:∀x0 x1 x2 x3 H,?p5->?vQ->?AZ->?MD->?NF->?q2):?a1N (Tb λx0 x1 x2 x3=>Hz ?qF (?o2) (?a6K p1) (?a6K p2) (?a6K p3) (?a6K p4)):=by
 rintro _ H ⟨x0,x1,x2,x3,rfl,h0,h1,h2,h3,h4⟩;exact ?a5L H
def As3[?jG]{p0 p1 p2 p3 p4 p5 p6 p7 p8:?rD}[?E](k:∀x0 x1 x2 x3 H,?p5->?vQ->?AZ->?MD->?NF->?a21 p5->?a21 p6->?a21 p7->?a21 p8->?q2):?a1N (Tb λx0 x1 x2 x3=>DH ?qF (?o2) (?a6K p1) (?a6K p2) (?a6K p3) (?a6K p4) (?a6K p5) (?a6K p6) (?a6K p7) (?a6K p8)):=by
 rintro _ H ⟨x0,x1,x2,x3,rfl,h0,h1,h2,h3,h4,h5,h6,h7,h8⟩;exact k x0 x1 x2 x3 H h0 h1 h2 h3 h4 h5 h6 h7 h8
def As2[?nB]{p0 p1 p2:?a4I ?aL}[?E](k:∀x0 x1 x2 x3 x4 H,?JJ->?Z5->?L3->?I8):?a1N (Ye λx0 x1 x2 x3 x4=>By ?l2 (?a6N p0) (?a6N p1) (?a6N p2)):=by
 rintro _ H ⟨x0,x1,x2,x3,x4,rfl,h0,h1,h2⟩;exact k x0 x1 x2 x3 x4 H h0 h1 h2
def As1[?nB]{p0 p1 p2 p3:?a4I ?aL}[?E](k:∀x0 x1 x2 x3 x4 H,?JJ->?Z5->?L3->?a3E p3->?I8):?a1N (Ye λx0 x1 x2 x3 x4=>C9 ?l2 (?a6N p0) (?a6N p1) (?a6N p2) (?a6N p3)):=by
 rintro _ H ⟨x0,x1,x2,x3,x4,rfl,h0,h1,h2,h3⟩;exact k x0 x1 x2 x3 x4 H h0 h1 h2 h3
def As0[?n9]{p0 p1 p2 p3:?B5}[?E](k:∀x0 x1 x2 x3 x4 x5 H,?CS->?E4->?w7->?yD->?vM):?a79 (lG λx0 x1 x2 x3 x4 x5=>C9 ?mX (?a1M p0 H) (?a1M p1 H) (?a1M p2 H) (?a1M p3 H)):=by
 rintro _ H ⟨x0,x1,x2,x3,x4,x5,rfl,h0,h1,h2,h3⟩;exact ?a56 H
def Ar9[?n9]{p0 p1 p2 p3 p4:?B5}[?E](k:∀x0 x1 x2 x3 x4 x5 H,?CS->?E4->?w7->?yD->?JL->?vM):?a79 (lG λx0 x1 x2 x3 x4 x5=>Hz ?mX (?a1M p0 H) (?a1M p1 H) (?a1M p2 H) (?a1M p3 H) (?a1M p4 H)):=by
 rintro _ H ⟨x0,x1,x2,x3,x4,x5,rfl,h0,h1,h2,h3,h4⟩;exact k x0 x1 x2 x3 x4 x5 H h0 h1 h2 h3 h4
def Ar8[?n9]{p0 p1 p2 p3 p4 p5 p6 p7:?B5}[?E](k:∀x0 x1 x2 x3 x4 x5 H,?CS->?E4->?w7->?yD->?JL->?a1T p5->?a1T p6->?a1T p7->?vM):?a79 (lG λx0 x1 x2 x3 x4 x5=>V5 ?mX (?a1M p0 H) (?a1M p1 H) (?a1M p2 H) (?a1M p3 H) (?a1M p4 H) (?a1M p5 H) (?a1M p6 H) (?a1M p7 H)):=by
 rintro _ H ⟨x0,x1,x2,x3,x4,x5,rfl,h0,h1,h2,h3,h4,h5,h6,h7⟩;exact k x0 x1 x2 x3 x4 x5 H h0 h1 h2 h3 h4 h5 h6 h7
def Ar7[?ET]{p0 p1 p2:?a2P ?aL}[?E](k:∀x0 x1 x2 x3 x4 x5 x6 x7 H,?XI->?GM->?RI->?M6):?a1N (vD λx0 x1 x2 x3 x4 x5 x6 x7=>By (σ=?mO) (?a6I p0) (?a6I p1) (?a6I p2)):=by
 rintro _ H ⟨x0,x1,x2,x3,x4,x5,x6,x7,rfl,h0,h1,h2⟩;exact k x0 x1 x2 x3 x4 x5 x6 x7 H h0 h1 h2
def XZ[?ET]{p0 p1 p2 p3 p4 p5 p6 p7:?a2P ?aL}[?E](k:∀x0 x1 x2 x3 x4 x5 x6 x7 H,?XI->?GM->?RI->?a1Q p3->?a1Q p4->?a1Q p5->?a1Q p6->?a1Q p7->?M6):?a1N (vD λx0 x1 x2 x3 x4 x5 x6 x7=>V5 (σ=?mO) (?a6I p0) (?a6I p1) (?a6I p2) (?a6I p3) (?a6I p4) (?a6I p5) (?a6I p6) (?a6I p7)):=by
 rintro _ H ⟨x0,x1,x2,x3,x4,x5,x6,x7,rfl,h0,h1,h2,h3,h4,h5,h6,h7⟩;exact k x0 x1 x2 x3 x4 x5 x6 x7 H h0 h1 h2 h3 h4 h5 h6 h7
def Ar6{A0 A1 A2 A3 A4 A5 A6 A7 A8:Type}{S:?a4H St}{p0 p1 p2:?a4H ?aL}[?E](k:∀x0 x1 x2 x3 x4 x5 x6 x7 x8 H,?a2W p0->?a2W p1->?a2W p2->let s:=(?GZ);?d1):?a1N (Ex9 λx0 x1 x2 x3 x4 x5 x6 x7 x8=>By (σ=?GZ) (?a6P p0 H) (?a6P p1 H) (?a6P p2 H)):=by
 rintro _ H ⟨x0,x1,x2,x3,x4,x5,x6,x7,x8,rfl,h0,h1,h2⟩;exact k x0 x1 x2 x3 x4 x5 x6 x7 x8 H h0 h1 h2
def ZV{A0 A1 A2 A3 A4 A5 A6 A7 A8 A9:Type}{S:?a3U St}{p0 p1 p2 p3:?a3U ?aL}[?E](k:∀x0 x1 x2 x3 x4 x5 x6 x7 x8 x9 H,?a22 p0->?a22 p1->?a22 p2->?a22 p3->let s:=(?S3);?d1):?a79 (QC λx0 x1 x2 x3 x4 x5 x6 x7 x8 x9=>C9 (σ=?S3) (?a1L p0 H) (?a1L p1 H) (?a1L p2 H) (?a1L p3 H)):=by
 rintro _ H ⟨x0,x1,x2,x3,x4,x5,x6,x7,x8,x9,rfl,h0,h1,h2,h3⟩;exact k x0 x1 x2 x3 x4 x5 x6 x7 x8 x9 H h0 h1 h2 h3
def Ia{S:St}[?E]{H0:Hp}(k:let s:=S;G s H0):?a1N (σ=S/\H0=H):=by
 rintro _ _ ⟨rfl,rfl⟩;exact k
def qL[?c8]{p0:?fM}[?E]{H0:Hp}(k:∀x0,p0  x0 H0->let s:=(S x0);G s H0):?a1N (?a7J (H0=H) ?hU):=by
 rintro _ _ ⟨x0,rfl,rfl,h0⟩;exact k x0 h0
def ex2{A0 A1:Type}{p:?lZ}{G:Prop}(k:∀x0 x1,p x0 x1->G)(h:∃x0 x1,p x0 x1):G:=h.elim λx0 h=>h.elim λx1 h=>k x0 x1 h
def Bx0{p0 p1 p2 G:Prop}(k:p0->p1->p2->G)(h:p0/\p1/\p2):G:=k h.1 h.2.1 h.2.2
section
variable{g:TG}{x:V}{t1 t2 t3 t4 t5 t6 t7 t8 t9 QD yF t12 t13 t14:TS}{D:Ends}{σ:St}{H:Hp}
def WV{tc:St->?a6Y Hp (?U7)}{k:?U7}(h:let k':=k;tc σ H k'):tc σ H k:=h
def letG1(h:let D':=D;?a5M D'):?a5M D:=h
def let2(h:let D':=D;let u2:TS:=t2;?R5):At t1 t2 D σ H:=h
def letG2(h:let D':=D;let u2:TS:=t2;?OB):?a1X t2:=h
def let3(h:let D':=D;let u3:TS:=t3;?NT):At t1 (At t2 t3) D σ H:=h
def letG3(h:let D':=D;let u3:TS:=t3;?UJ):?a1X (At t2 t3):=h
def let4(h:let D':=D;let u4:TS:=t4;?L7):At t1 (At t2 (At t3 t4)) D σ H:=h
def letG4(h:let D':=D;let u4:TS:=t4;?TW):?a1X (At t2 (At t3 t4)):=h
def let5(h:let D':=D;let u5:TS:=t5;?I1):?a1O t5:=h
def let6(h:let D':=D;let u6:TS:=t6;?U3):?a1O (At t5 t6):=h
def letG6(h:let D':=D;let u6:TS:=t6;let u5:TS:=?TV;let u4:TS:=?RT;?TW):?a1X (At t2 (At t3 (At t4 (At t5 t6)))):=h
def let7(h:let D':=D;let u7:TS:=t7;?K4):?a1O (At t5 (At t6 t7)):=h
def let8(h:let D':=D;let u8:TS:=t8;?NM):?a1O (At t5 (At t6 (At t7 t8))):=h
def let9(h:let D':=D;let u9:TS:=t9;?JR):?a1O (?a6M t9):=h
def let10(h:let D':=D;let qN:TS:=QD;?P2):?a1O (?a6M (At t9 QD)):=h
def let12(h:let D':=D;let u12:TS:=t12;?YP):?a1O (?a6M (At t9 (At QD (At yF t12)))):=h
def let13(h:let D':=D;let u13:TS:=t13;let u12:TS:=At t12 u13;?YP):?a1O (?a6M (At t9 (At QD (At yF (At t12 t13))))):=h
universe e9
universe Hb
local macro_rules|`(tactic|infer_instance)=>`(tactic|first|(apply Hb.let13 ?_;intro _ _ _ _ _ _ _ _ _ _ _ _ _)|(apply Hb.let12 ?_;intro _ _ _ _ _ _ _ _ _ _ _ _)|(apply Hb.let10 ?_;intro _ _ _ _ _ _ _ _ _ _)|(apply Hb.let9 ?_;intro _ _ _ _ _ _ _ _ _)|(apply Hb.let8 ?_;intro _ _ _ _ _ _ _ _)|(apply Hb.let7 ?_;intro _ _ _ _ _ _ _)|(apply Hb.let6 ?_;intro _ _ _ _ _ _)|(apply Hb.let5 ?_;intro _ _ _ _ _)|(apply Hb.let4 ?_;intro _ _ _ _)|(apply Hb.let3 ?_;intro _ _ _)|(apply Hb.let2 ?_;intro _ _))
local macro_rules|`(tactic|and_intros)=>`(tactic|first|(apply Hb.letG6 ?_;intro _ _ _ _ _ _)|(apply Hb.letG4 ?_;intro _ _ _ _)|(apply Hb.letG3 ?_;intro _ _ _)|(apply Hb.letG2 ?_;intro _ _)|(apply Hb.letG1 ?_;intro _))
namespace Hb
open PySem L2
def l8[?c8]{p0:?wR}[?U](k:∀x0,?jA->?p6):?a1S (Ea λx0=>?mJ/\?jA):=by
 rintro _ ⟨x0,rfl,h0⟩;exact k x0 h0
def YZ[?c8]{p0 p1:?wR}[?U](k:∀x0,?jA->?u2->?p6):?a1S (?a7J (?jA) (?u2)):=by
 rintro _ ⟨x0,rfl,h0,h1⟩;exact k x0 h0 h1
def mD[?c8]{p0 p1 p2:?wR}[?U](k:∀x0,?jA->?u2->p2 x0->?p6):?a1S (Ea λx0=>By ?eR (?jA) (?u2) (p2 x0)):=by
 rintro _ ⟨x0,rfl,h0,h1,h2⟩;exact k x0 h0 h1 h2
def Mm[?c8]{p0 p1 p2:Prop}[?U](k:p0->p1->p2->?GJ):?a1S (?a75 (Ea λx0=>?mJ)):=by
 rintro _ ⟨h0,h1,h2,x0,rfl⟩;exact k h0 h1 h2 x0
def sV[?c8]{p0 p1 p2 p3:Prop}[?U](k:p0->p1->p2->p3->?GJ):?a1S (C9 (p0) (p1) (p2) (p3) (Ea λx0=>?mJ)):=by
 rintro _ ⟨h0,h1,h2,h3,x0,rfl⟩;exact k h0 h1 h2 h3 x0
def yZ[?dH]{p0:?lZ}[?U](k:∀x0 x1,?eH->?mR):?a1S (Ko λx0 x1=>?jT/\?eH):=by
 rintro _ ⟨x0,x1,rfl,h0⟩;exact k x0 x1 h0
def YY[?dH]{p0 p1:?lZ}[?U](k:∀x0 x1,?eH->?iS->?mR):?a1S (Ko λx0 x1=>Ev ?j8 (?eH) (?iS)):=by
 rintro _ ⟨x0,x1,rfl,h0,h1⟩;exact k x0 x1 h0 h1
def X0[?dH]{p0 p1 p2:?lZ}[?U](k:∀x0 x1,?eH->?iS->?r2->?mR):?a1S (Ko λx0 x1=>By ?j8 (?eH) (?iS) (?r2)):=by
 rintro _ ⟨x0,x1,rfl,h0,h1,h2⟩;exact k x0 x1 h0 h1 h2
def yT[?dH]{p0 p1 p2:Prop}[?U](k:p0->p1->p2->?LD):?a1S (?a75 (Ko λx0 x1=>?jT)):=by
 rintro _ ⟨h0,h1,h2,x0,x1,rfl⟩;exact k h0 h1 h2 x0 x1
def yY[?dH]{p0 p1 p2 p3:?lZ}[?U](k:∀x0 x1,?eH->?iS->?r2->?O6->?mR):?a1S (Ko λx0 x1=>C9 ?j8 (?eH) (?iS) (?r2) (?O6)):=by
 rintro _ ⟨x0,x1,rfl,h0,h1,h2,h3⟩;exact k x0 x1 h0 h1 h2 h3
def sU[?dH]{p0 p1 p2 p3:Prop}[?U](k:p0->p1->p2->p3->?LD):?a1S (C9 (p0) (p1) (p2) (p3) (Ko λx0 x1=>?jT)):=by
 rintro _ ⟨h0,h1,h2,h3,x0,x1,rfl⟩;exact k h0 h1 h2 h3 x0 x1
def MC[?cS]{p0:?l1}[?U](k:∀x0 x1 x2,?gK->?kK):?a1S (Nl λx0 x1 x2=>?zP/\?gK):=by
 rintro _ ⟨x0,x1,x2,rfl,h0⟩;exact k x0 x1 x2 h0
def YX[?cS]{p0 p1:?l1}[?U](k:∀x0 x1 x2,?gK->?kS->?kK):?a1S (Nl λx0 x1 x2=>Ev ?e8 ?sP ?pO):=by
 rintro _ ⟨x0,x1,x2,rfl,h0,h1⟩;exact k x0 x1 x2 h0 h1
def cH[?cS]{p0 p1 p2:?l1}[?U](k:∀x0 x1 x2,?gK->?kS->?i8->?kK):?a1S (Nl λx0 x1 x2=>By ?e8 ?sP ?pO (?i8)):=by
 rintro _ ⟨x0,x1,x2,rfl,h0,h1,h2⟩;exact k x0 x1 x2 h0 h1 h2
def yX[?cS]{p0 p1 p2 p3:?l1}[?U](k:∀x0 x1 x2,?gK->?kS->?i8->?rM->?kK):?a1S (Nl λx0 x1 x2=>C9 ?e8 ?sP ?pO (?i8) (?rM)):=by
 rintro _ ⟨x0,x1,x2,rfl,h0,h1,h2,h3⟩;exact k x0 x1 x2 h0 h1 h2 h3
def mC[?cS]{p0 p1 p2 p3 p4:?l1}[?U](k:∀x0 x1 x2,?gK->?kS->?i8->?rM->?VT->?kK):?a1S (Nl λx0 x1 x2=>Hz ?e8 ?sP ?pO (?i8) (?rM) (?VT)):=by
 rintro _ ⟨x0,x1,x2,rfl,h0,h1,h2,h3,h4⟩;exact k x0 x1 x2 h0 h1 h2 h3 h4
def Xz[?jG]{p0 p1 p2:A0->A1->?a6Y A2 A3}[?U](k:∀x0 x1 x2 x3,?HB->?XW->?QD->?IL):?a1S (Tb λx0 x1 x2 x3=>By ?qF (?HB) (?XW) (?QD)):=by
 rintro _ ⟨x0,x1,x2,x3,rfl,h0,h1,h2⟩;exact k x0 x1 x2 x3 h0 h1 h2
def A05[?jG]{p0 p1 p2:Prop}[?U](k:p0->p1->p2->∀x0 x1 x2 x3,?IL):?a1S (?a75 (Tb λx0 x1 x2 x3=>?E0)):=by
 rintro _ ⟨h0,h1,h2,x0,x1,x2,x3,rfl⟩;exact k h0 h1 h2 x0 x1 x2 x3
def YW[?nB]{p0 p1 p2:?A0}[?U](k:∀x0 x1 x2 x3 x4,?iR->?iH->?hS->?CM):?a1S (Ye λx0 x1 x2 x3 x4=>By ?l2 (?iR) (?iH) (?hS)):=by
 rintro _ ⟨x0,x1,x2,x3,x4,rfl,h0,h1,h2⟩;exact k x0 x1 x2 x3 x4 h0 h1 h2
def yW[?nB]{p0 p1 p2 p3 p4:?A0}[?U](k:∀x0 x1 x2 x3 x4,?iR->?iH->?hS->?rJ->?r6->?CM):?a1S (Ye λx0 x1 x2 x3 x4=>Hz ?l2 (?iR) (?iH) (?hS) (?rJ) (?r6)):=by
 rintro _ ⟨x0,x1,x2,x3,x4,rfl,h0,h1,h2,h3,h4⟩;exact ?a5L x4
def YV[?nB]{p0 p1 p2 p3 p4 p5:?A0}[?U](k:∀x0 x1 x2 x3 x4,?iR->?iH->?hS->?rJ->?r6->?LT->?CM):?a1S (Ye λx0 x1 x2 x3 x4=>Nm ?l2 (?iR) (?iH) (?hS) (?rJ) (?r6) (?LT)):=by
 rintro _ ⟨x0,x1,x2,x3,x4,rfl,h0,h1,h2,h3,h4,h5⟩;exact k x0 x1 x2 x3 x4 h0 h1 h2 h3 h4 h5
def yV[?n9]{p0 p1 p2 p3 p4:?a7R A5}[?U](k:∀x0 x1 x2 x3 x4 x5,?r5->?pY->?tF->?sT->?tT->?VU):?a1S (lG λx0 x1 x2 x3 x4 x5=>Hz ?mX (?r5) (?pY) (?tF) (?sT) (?tT)):=by
 rintro _ ⟨x0,x1,x2,x3,x4,x5,rfl,h0,h1,h2,h3,h4⟩;exact k x0 x1 x2 x3 x4 x5 h0 h1 h2 h3 h4
def YU[?n9]{p0 p1 p2 p3 p4 p5 p6 p7:?a7R A5}[?U](k:∀x0 x1 x2 x3 x4 x5,?r5->?pY->?tF->?sT->?tT->?HJ->?VK->?MT->?VU):?a1S (lG λx0 x1 x2 x3 x4 x5=>V5 ?mX (?r5) (?pY) (?tF) (?sT) (?tT) (?HJ) (?VK) (?MT)):=by
 rintro _ ⟨x0,x1,x2,x3,x4,x5,rfl,h0,h1,h2,h3,h4,h5,h6,h7⟩;exact k x0 x1 x2 x3 x4 x5 h0 h1 h2 h3 h4 h5 h6 h7
def yU{A0 A1 A2 A3 A4 A5 A6:Type}{S:A0->A1->A2->A3->A4->A5->A6->St}{p0 p1 p2 p3:A0->A1->A2->A3->A4->?a6Y A5 A6}[?U](k:∀x0 x1 x2 x3 x4 x5 x6,?WF->?HH->?QE->?SQ->let s:=?NB;G s):?a1S (zR λx0 x1 x2 x3 x4 x5 x6=>C9 (σ=?NB) (?WF) (?HH) (?QE) (?SQ)):=by
 rintro _ ⟨x0,x1,x2,x3,x4,x5,x6,rfl,h0,h1,h2,h3⟩;exact ?a56 x6
def YT[?ET]{p0 p1 p2 p3:A0->A1->A2->A3->A4->A5->?a6Y A6 A7}[?U](k:∀x0 x1 x2 x3 x4 x5 x6 x7,?Z6->?SE->?ME->?SG->let s:=?mO;G s):?a1S (vD λx0 x1 x2 x3 x4 x5 x6 x7=>C9 (σ=?mO) (?Z6) (?SE) (?ME) (?SG)):=by
 rintro _ ⟨x0,x1,x2,x3,x4,x5,x6,x7,rfl,h0,h1,h2,h3⟩;exact k x0 x1 x2 x3 x4 x5 x6 x7 h0 h1 h2 h3
def sX{A0 A1 A2 A3 A4 A5 A6 A7 A8 A9 IU:Type}{S:A0->A1->A2->A3->A4->A5->A6->A7->A8->A9->IU->St}{p0 p1 p2 p3 p4 p5 p6 p7 p8:A0->A1->A2->A3->A4->A5->A6->A7->A8->?a6Y A9 IU}[?U](k:∀x0 x1 x2 x3 x4 x5 x6 x7 x8 x9 Sg,?Q8->?V9->?Z7->?H5->?OU->?IH->?VX->?V2->?WY->let s:=?RD;G s):∀σ,(LG λx0 x1 x2 x3 x4 x5 x6 x7 x8 x9 Sg=>DH (σ=?RD) (?Q8) (?V9) (?Z7) (?H5) (?OU) (?IH) (?VX) (?V2) (?WY))->?T:=by
 rintro _ ⟨x0,x1,x2,x3,x4,x5,x6,x7,x8,x9,Sg,rfl,h0,h1,h2,h3,h4,h5,h6,h7,h8⟩;exact k x0 x1 x2 x3 x4 x5 x6 x7 x8 x9 Sg h0 h1 h2 h3 h4 h5 h6 h7 h8
universe Hb
namespace L2
open PySem PySem.Spec PyProof.Rows
section
variable[?nG][?Q][?FA]{ds:?lM}
universe e9
universe L2
namespace L2
open PySem PySem.Spec PyProof.Rows PySem.W
section
variable[?a16]{sp:Sp}{m:Str}{pos apos:Pos}[?a1A]
universe e9
section
variable[?nG]{K:Frag}[?FA]{ds:?lM}
universe e9
section
variable[?a16]{dvs:?v}{sp:Sp}{m x:Str}{p pos apos:Pos}[?a1A]
universe e9
universe L2
namespace L2
open PySem PySem.Spec PyProof.Rows
abbrev Cw[?i](n:Str)(st:Stmt):Prop:=∃(f:Addr) (fd:FuncData),W.nsIn K ?JP n=?d (?a3V f)/\?Y0
abbrev T6[?i](C:Addr)(n q:Str)(st:Stmt):Prop:=∃(f:Addr) (fd:FuncData),W.findIn K ?B4 n=?d (?a3V f)/\W.isFn K (?f f)=true/\?LP
abbrev BA(x q:Str)(st:Stmt)(ps:?B):Prop:=∀(kV doc pm:Value) (an:OAddr) (Dr ct:Value) (us:?lM),us.length=ps.length->bindArgs (W.fnOf x q (Jx st) (Ht st) (Ar st) ?bZ kV doc pm an Dr ct) #[us,[]]=pure (ps.zip us)
section
variable[?nG][?Q]{mg:?z5}{base h:Heap}
def Bq(X:K.In h)(G:h.Ns ?JP mg){n:Str}[?F5](d:Cw K n st)(ok:∀{f fd},?Y0->?CJ)(hb:BA n n st ps):Has P w K mg ?O n ps k sp:=by
 let#[f,fd,a,F]:=d;exact#[_,_,qv5 X G a,F.kp,?A5,ok F]
def Jv{C:Addr}{n q:Str}[?F5](d:T6 K C n q st)(ok:∀{f fd},?LP->?CJ)(hb:BA n q st ps):K0 P w K mg ?O C n ps k sp:=by
 let ?KR:=d;exact#[_,_,#[a,b,F.kp],?A5,ok F]
def ET{C:Addr}{q:Str}[?F5](m:PySem.W.makesIn K C=true)(kc:W.keepIn K ?B4=true)(d:T6 K C ?pT q st)(ok:∀{f fd},E9 K ?pT q st f fd->?CJ)(hb:BA ?pT q st ps):iU P w K mg ?O C ps k sp:=by
 let ?KR:=d;exact#[_,_,#[m,a,b,kc],?A5,ok F]
universe e9
universe L2
namespace Hb
open PySem L2
abbrev top(i:Nat):Stmt:=PySem.Challenge.pw_holebook_k37_what_is_told_of_a_round.main.body.getD i (.Pass #[0,0,0,0])
structure Fv[?i](mg:?z5)(Ag Af Aj Av:Addr):Prop where
 m_Lines:mg "Lines"=?a3V Ag
 cl_Lines:Cls K Ag
 na_Lines_rows:Dy K Ag ?mK
 na_Lines_backs:Dy K Ag ?kI
 m_Stairs:mg "Stairs"=?a3V Af
 cl_Stairs:Cls K Af
 na_Stairs_rows:Dy K Af ?mK
 na_Stairs_backs:Dy K Af ?kI
 na_Stairs_starts:Dy K Af ?G7
 m_Work:mg "Work"=?a3V Aj
 cl_Work:Cls K Aj
 na_Work_table:Dy K Aj ?gU
 na_Work_width:Dy K Aj ?pN
 na_Work_left:Dy K Aj ?EG
 na_Work_right:Dy K Aj ?vP
 na_Work_numbers:Dy K Aj ?O3
 m_Book:mg "Book"=?a3V Av
 cl_Book:Cls K Av
 na_Book_pieces:Dy K Av ?RZ
 na_Book_levels:Dy K Av ?KP
 na_Book_lifts:Dy K Av "lifts"
 x_GAPS:∃a,?a4K "GAPS" [32,16,8,4,2]
 x_FACE_COUNTS:∃a,?a4K "FACE_COUNTS" [0,2,3,4]
 x_MOST_ROWS:∃t,mg "MOST_ROWS"=?d (?e 40 t)
 x_LEVELS:∃t,mg "LEVELS"=?d (?e 4 t)
 x_MOST_PIECES:∃t,mg "MOST_PIECES"=?d (?e 40 t)
 n_isinstance:?a2N ?UV
 n_int:?a2N "int"
 n_bool:?a2N ?wM
 n_tuple:?a2N ?C5
 n_zip:?a2N "zip"
 n_max:?a2N "max"
 n_len:?a2N "len"
 n_all:?a2N "all"
 n_range:?a2N "range"
 n_dict:?a2N ?C4
 n_any:?a2N "any"
 n_sum:?a2N "sum"
 n_list:?a2N ?pB
 n_enumerate:?a2N ?eU
 n_min:?a2N "min"
abbrev pN[?FF]:?y:=(ns.drop (?O8)).take (?kA ?k9 ?k9 hi-?O8)
def IF[?FF]:Kb ?rZ lo hi=(?YN).map ?X:=by
 unfold Kb pN;rw[qa4,qp0,qr3]
def iG[?FF]:?a2K ?YN ns.length:=by
 unfold pN;rw[qd5,qj3];exact qa5 ?UO ?GQ
def SG:([?dC]:?B).Nodup:=?z
def YR:(?KH:?B).Nodup:=?z
def Az3:(["face",?j6,"level"]:?B).Nodup:=?z
def yR:([?dN,?dC,?j6,"k"]:?B).Nodup:=?z
def Az2:(["k",?j6,"thing"]:?B).Nodup:=?z
def YQ:(?Y4:?B).Nodup:=?z
def yQ:(?V0:?B).Nodup:=?z
def yP:([?dN,"piece","k"]:?B).Nodup:=?z
def RZ:([?eV,?pN]:?B).Nodup:=?z
def Az1:([?eV,?p4,?pN]:?B).Nodup:=?z
def Ae9:(["j",?gU]:?B).Nodup:=?z
def Ae8:(?JQ:?B).Nodup:=?z
def Ae7:(["i","size"]:?B).Nodup:=?z
def Ae6:(?H8:?B).Nodup:=?z
def SE:(?PR:?B).Nodup:=?z
def Ae5:([?dN,"below",?j6]:?B).Nodup:=?z
def Ae4:(?OF:?B).Nodup:=?z
def SD:([?dN,?dC]:?B).Nodup:=?z
def SA:([?eV,"paper"]:?B).Nodup:=?z
def sA:(?X1:?B).Nodup:=?z
def Ae3:(?oT:?B).Nodup:=?z
def EB:(["order","loop","gauge","filling"]:?B).Nodup:=?z
def Ae2:(?IZ:?B).Nodup:=?z
def Ae1:(?nX:?B).Nodup:=?z
def Ae0:(["_law_letter"]:?B).Nodup:=?z
def Ad9:(?SB:?B).Nodup:=?z
def Ad8:([?oR,?E1,?WX]:?B).Nodup:=?z
def Ad7:(["_law_face",?WX]:?B).Nodup:=?z
def Ad6:(["_law_number"]:?B).Nodup:=?z
section
variable[?nG][?Q][?FA]{Ag Af Aj Av:Addr}
noncomputable abbrev Tp:Stmt:=top 2
def GH:?a9 ?i9 ?i9 (Ar Tp):=Bi
def GS[?aC](F:E9 K ?V3 ?V3 Tp f fd)[?aB] :?a1K ?i9 J0:=by
 apply ?a23 GH;ext ZE
 . ext ZN
   ext jM
 . have e2:?X9:=?U5
   ext jM
noncomputable abbrev Jh:Stmt:=top 4
def Cy:?a9 ["one",?p4,"last","now",?YV,"rest"] ?NS (Ar Jh):=Bi
def U4[?aC](F:E9 K ?X7 ?X7 Jh f fd)[?aB] :?a1K ?NS Xw:=by
 apply ?a23 Cy;let#[n,p,rfl,hA,hB,lA,lB,k]:=h
 apply#[_,(Ac (?a6T 2 (Es (Aa ?l (?a28 Ak Ak))))
  (Ac (?a6T 3 (Es (Aa ?K (?a28 Ak Ak))))
  (Ac (U1 qb8 (?a2F Ib (?a7O ?bP)) (Ac (?a6T 4 (Bh J4 (?a7O ?V) (?a7O ?bP)))
  (Ac (Ao (i:=5) ?j3 (?a7U (B8 (N':=?KH) (cap:=[none,none,?d 4]) ?q ?c2 (?a7E vZ ?V) (?a1P (?a6J YR (?a7M 1 YR))) ?d0 (?a1P (Bh G0 ?l (Bh Jt ?V ?K))))))
  (Ac (?a6T 2 ?bP)
  (Ai (?a6T 3 (pv 5)))))))
  (Ac (?a6O (?a2F Qv (?a7O ?V)) (?a7U (B8 (N':=[?dC]) (cap:=?zD) ?q ?c2 (U9 (K:=K) ?V) (?a1P (?a7M 0 SG)) ?d0 (?a1P (Nw Je ?l)))))
  (?a7T ?V))))),?_]
 ext cU
 apply#[_,rfl,?fA,λL0 hL0=>?_];have s0:?F H (?a30 0):=?b3 hL0;apply#[_,rfl,?fA,λN0 hN0=>?_];have s1:?F (?a30 0) (?ID):=?b3 hN0;apply Ew (λσ' H'=>σ'=[iS n,iS p,rS L0,rS N0,none,none]/\H'=?ID) ?_ ?QZ;rintro _ _ ⟨rfl,rfl⟩;apply ?a4R (λσ' H'=>Ex9 λ ?xF (a x y u v:Int) ?vK=>By ?G8 (?Z) (SqT K H' L ?kQ) (?a7K a 0))
 . apply#[λm σ G=>QC λ ?xF (a x y b u v:Int) ?vK=>fQ (σ=?XU) ?u4 (SqT K G L ?kQ) (SqT K G N ?CO) (?a7K a b) (a.natAbs<L9) (b.natAbs<L9) (m=b.natAbs),#[_,L0,N0,n,1,0,p,0,1,?A,?A,rfl,s0.trans s1,.of (s1 _ _ Ab),?fW,Lat.EuI.start hA hB,lA,lB,rfl],?_];rintro m σ G C6;apply WV ?_;intro _;let#[L,N,a,x,y,b,u,v,o4,o5,rfl,s2,hL,hN,hE,la,lb,rfl]:=C6;apply(?a50 N hN);ext cR
   . have hb0:¬b=0:=?Y
     let#[hE2,hlt]:=hE.step hA hb0;let#[_,_,_,_,lu,lv]:=hE.all hA hB
     have lq:?VV<L9:=by
      apply qc1 ?_ la;have h3:(?b9*b).natAbs<=a.natAbs+(a-?b9*b).natAbs:=by have h5:=Int.natAbs_sub_le a (a-?b9*b);rwa [Int.sub_sub_self]at h5
      rw[qb2]at h3;have h4:0<b.natAbs:=Int.natAbs_pos.mpr hb0;apply qg9 λh5=>?_;have h6:=qc0 b.natAbs (show a.natAbs+1<=?VV from h5);rw[qf7,qf5]at h6;have h7:=qf0 a.natAbs h4;omega
     have ok:∀z:Int,z.natAbs<L9->?cQ (?b9) z:=λz hz=>eE lq hz;apply#[λσ' G'=>QC λ ?xF (a' x y b' u v:Int) ?vK=>fQ ?G8 (?IY) (SqT K G' L [?e a',?e x,?e y]) (SqT K G' N [?e b',?e u,?o5]) (?a7K a' b') (a'.natAbs<L9) (b'.natAbs<L9) (b'.natAbs<b.natAbs),?_,?_]
     . rintro σ' G' ⟨L',N',a',x',y',b',u',v',o4',o5',rfl,q1,q2,q3,q4,q5,q6,q7⟩;exact#[b'.natAbs,q7,L',N',a',x',y',b',u',v',o4',o5',rfl,q1,q2,q3,q4,q5,q6,rfl]
     apply#[_,rfl,L,_,_,_,rfl,rfl,hL,rfl,_,rfl,N,_,_,_,rfl,rfl,hN,rfl,_,_,rfl,rfl,V4.of9 hb0 lb,?_];apply#[_,rfl,_,rfl,L,N,rfl,#[_,hL],#[_,hN],?cK]
     have gv:∀(i:Nat) (e f:V),(?kQ:?v)[i]?=?d e->(?CO:?v)[i]?=?d f->∃e' f':Int,e=?e e'/\f=?e f'/\?cQ (?b9) f'/\i<3 ∧
      (?nT:?v)[i]?=?a2V (e'-?b9*f'):=by
      intro i e f he hf
      match i,he,hf with
      | 0,he,hf=>cases he;cases hf;exact#[a,b,rfl,rfl,ok _ lb,?bX,rfl]
      | 1,he,hf=>cases he;cases hf;exact#[x,u,rfl,rfl,?RA,?bX,rfl]
      | 2,he,hf=>cases he;cases hf;exact#[y,v,rfl,rfl,?RA,?bX,rfl]
      | i+3,he,hf=>simp at he
     apply KU (K:=K) (a:=L) (b:=N) (xs:=?kQ) (ys:=?CO) (n:=3) ?vV (λi zs τ G1=>By (?F G G1) (G1 D=?i7) (zs=(?nT:?v).take i) (?a2R ?d (?e (?b9))))
      ?SH (λi zs τ G1 _ hz=>by let#[s3,_]:=hz;exact#[?pZ hL,?pZ hN]) ?_ ?_
     . rintro i e f zs τ G1 pr he hf C6 hpr;revert τ;apply yT ?_;intro s3 fS hzs o1 o2 Er;let#[e',f',rfl,rfl,hok,hi3,hnext]:=gv i e f he hf;have sp:?F G1 (upd G1 pr (?D [?e e',?e f'])):=?b3 hpr;ext EW;apply#[_,rfl,_,rfl,_,rfl,_,_,rfl,rfl,hok,_,_,rfl,rfl,?_];apply#[sp _ _ fS,?dT (by rw[hzs,qd5];omega),(?T2 sp).turn hD,Ab,?_,_,_,rfl];rw[qe7,hnext,hzs];rfl
     . ext ZI;have Ah3:zs=?nT:=hzs;have hT2:SqT K (upd G1 T1 (?D zs)) T1 ?nT:=?G6
       exact#[_,rfl,_,rfl,N,T1,b,u,v,a-?b9*b,x-?b9*u,y-?b9*v,_,_,rfl,?wH,(?T2 s4).seqT hN,hT2,hE2,lb,qv1 hlt lb,hlt]
   . have hb0:b=0:=?Y
     subst hb0;exact key _ _ #[L,N,a,x,y,u,v,o4,o5,rfl,s2,hL,hE]
 apply Ar6 λL N a x y u v o4 o5 G s2 hL hE=>?_;intro sq;let#[e1,e2,e3]:=hE.last hA hB;apply#[_,rfl,L,_,_,_,rfl,rfl,hL,rfl,_,_,rfl,rfl,_,rfl,?_];ext cR
 . have ha:a<0:=?Y
   apply(?a2J L hL)
   let Pq1:?dE:=λi zs τ G1=>By (?F G G1) (G1 D=?i7) (zs=(?x3:?v).take i) (Ea λo1=>τ=[o1])
   apply Xh (K:=K) (a:=L) (xs:=?kQ) Pq1
    ?qG (λi zs τ G1 _ hz=>by let#[s3,_]:=hz;exact ?pZ hL) ?_ ?_
   . rintro i e zs τ G1 he C6;ext nF;intro s3 fS hzs o1 Er
     have gv:∃e':Int,e=?e e'/\i<3/\(?x3:?v)[i]?=?a2V (-e'):=by
      match i,he with
      | 0,he=>cases he;exact#[a,rfl,?bX,rfl]
      | 1,he=>cases he;exact#[x,rfl,?bX,rfl]
      | 2,he=>cases he;exact#[y,rfl,?bX,rfl]
      | i+3,he=>simp at he
     let#[e',rfl,hi3,hnext]:=gv;apply#[_,rfl,_,rfl,fS,?dT (by rw[hzs,qd5];omega),s3.turn hD,Ab,?_,_,rfl];rw[qe7,hnext,hzs];rfl
   . ext ZI;have Ah3:zs=?x3:=hzs;exact k T1 (-a) (-x) (-y) _ (?wH) (?G6) (e2 ha)
 . have ha:¬a<0:=?Y
   exact#[_,rfl,k L a x y G s2 hL (e1 O9m)]
noncomputable abbrev To:Stmt:=top 7
def gH:?a9 ?nX ?nX (Ar To):=Bi
def gS[?aC](F:E9 K ?ZD ?ZD To f fd)[?aB] :?a1K ?nX F8:=by
 apply ?a23 gH;let#[x,ds,rfl,hx,k]:=h;apply(?a6L (Az ?P0 T.n_max DA (?a28 (Bh G0 ?kB Ak) Ak)))
 obtain⟨p,us,e,hq,hl⟩:∃(p:Addr) (us:?v),x=?aW/\(?a37 p us\/?a4U p us)/\?OJ:=by
  rcases hx with⟨p,us,e,hq,r⟩|⟨p,us,e,hq,r⟩
  . exact#[p,us,e,?h hq,?xT]
  . exact#[p,us,e,?xR,?xT]
 subst e;apply#[_,rfl,p,us,rfl,hq,_,_,rfl,rfl,_,_,rfl,?_];rw[hl];exact k
noncomputable abbrev Mv:Stmt:=top 10
def Lg:?a9 [?j6,"faces","j","i"] ?WE (Ar Mv):=Bi
def c9[?aC](F:E9 K ?PB ?PB Mv f fd)[?aB] :?a1K ?WE Qd:=by
 apply ?a23 Lg;let#[a,v,xs,p,rfl,hL,hv,R7,hf,k]:=h;let#[pa,rfl,hq]:=hv.sq;have hpl:(p.map ?X).length=p.length:=qa4 ..
 apply#[_,(Ac (B6 qb8 rfl (?a39 (?a7Q (Aa ?K Ad))) (?a7M 2 Lg.nd) (Ai (B6 qb8 rfl (?a39 ?V) (?a7M 3 Lg.nd) (Ai (Bx (Bf Ib (?a73 ?V ?bP) (?a73 ?bP (Bh G0 ?V Ak)) ?aI) ?tB Bj)))))
  ?tB),?_]
 ext cU
 apply#[_,rfl,pa,_,rfl,?xR,_,rfl,O9m,O9m,?_];rw[hpl]
 let Pq2:?jB:=λj σ H2=>Ev (H=H2) ((∃o2 o3,σ=[rS a,rS pa,o2,o3])) (∀j' i',j'<j->i'<j'->Vy xs p j' i'=true)
 apply Ch (lo:=0) (n:=((p.length:Nat):Int).toNat) Pq2
  #[rfl,#[?A,?A,rfl],λj' i' h=>?PH] ?_ ?_
 . rintro j σ H2 hj C6
   and_intros
   let#[rfl,#[o2,o3,rfl],hall]:=C6;have hj':?QP:=O9m
   apply#[_,rfl,_,rfl,O9m,O9m,?_]
   let Pq3:?jB:=λi σ H2=>Ev (H=H2) ((∃o3,σ=[rS a,rS pa,?a2V (0+j),o3])) (∀i',i'<i->Vy xs p j i'=true)
   apply Ch (lo:=0) (n:=?GK) Pq3
    #[rfl,?hB,λi' h=>?PH] ?_ ?_
   . rintro i σ H2 hi C6
     and_intros
     let#[rfl,#[o3,rfl],hall2]:=C6;have hij:i<j:=O9m
     have mj:?nP∈p:=by rw[qa1,qa0 hj'];exact ?gP
     have mi:?rY∈p:=?P9
     let#[j0,j1,j2]:=hf _ mj;let#[i0,i1,i2]:=hf _ mi;let#[_,z,hq1,at1]:=?a5Y ?hJ hv;cases z;rw[show ?GK=j by omega]at at1;let#[_,z,hq2,at2]:=?a5Y ?dM hv;cases z;rw[?KT]at at2;let#[us1,v1,hu1,av1,tv1]:=LT.get hL j0 j1;let#[us2,v2,hu2,av2,tv2]:=LT.get hL i0 i1;let#[b1,e1,hb1,ab1]:=?a5Y ?dM tv1;let#[b2,e2,hb2,ab2]:=?sL (i:=?hJ-1) tv2 O9m O9m;subst e1 e2;rw[?KT]at ab1;rw[show(?hJ-1).toNat=j-1 by omega]at ab2;apply#[_,rfl,_,rfl,_,rfl,pa,_,_,_,rfl,rfl,hq1,at1,a,us1,_,_,rfl,rfl,hu1,av1,_,rfl,b1,_,_,_,rfl,rfl,hb1,ab1,?_];apply#[_,rfl,_,rfl,_,rfl,pa,_,_,_,rfl,rfl,hq2,at2,a,us2,_,_,rfl,rfl,hu2,av2,_,rfl,_,_,rfl,rfl,b2,_,_,_,rfl,rfl,hb2,ab2,?_];apply#[rfl,_,rfl,?_];by_cases hag:?a2Q 0
     . apply Hg (eqI hag) ?_;apply#[rfl,?hB,λi' h=>?_];by_cases hz:i'=i
       . subst hz;unfold Vy;exact qf2 hag
       . exact ?Z9
     . apply eO (neI hag) ?_
       have e2:Ng xs p=false:=by
        cases q:Ng xs p with
        | false=>rfl
        | true =>
          unfold Ng at q;rw[qd3]at q;have q2:=q j (?n6 hj');rw[qd3]at q2;have q3:=q2 i (?n6 hij);exact ?aA (qc2 q3) hag
       ext jM
   . rintro σ H2 ⟨rfl,⟨o3,rfl⟩,hall2⟩;apply#[rfl,#[_,_,rfl],λj' i' h1 h2=>?_];by_cases hz:j'=j
     . subst hz;exact ?Z9
     . exact hall j' i' O9m h2
 . rintro σ H2 ⟨rfl,⟨o2,o3,rfl⟩,hall⟩
   have e2:Ng xs p=true:=by
    ext a0P;have:=?i1 hj;exact hall j i O9m (?iV)
   ext jM
noncomputable abbrev Z5:Stmt:=top 16
def CA:?a9 [?fR,?dN,?dC,"total"] ?NA (Ar Z5):=Bi
def OC[?aC](F:E9 K ?Q7 ?Q7 Z5 f fd)[?aB] :?a1K ?NA Rs:=by
 apply ?a23 CA;let#[a,ms,k,n,rfl,ha,hl,kq]:=h;have On:=hr.u8
 apply#[_,(Ac (Ao (i:=3) CA.nd (Bh Cq (Qu ?gB ?l ?K Ak ?pX) ?V))
  (Ai (Bx (?a2F Fb ?bP) (Ai (Br (rK ?l ?K JK ?pX))) (Ai (Rw ?gB ?l ?K ?bP ?q))))),?_]
 ext cU
 apply#[_,rfl,a,rfl,?h #[_,?h ha],_,rfl,_,Vl (?h ha),_,rfl,?a2,n,Vx ms k,rfl,?_];ext nD;ext cR
 . have e:?iP=0:=?Y
   unfold Jo at kq;rw[?b1]at kq;apply#[_,rfl,a,rfl,?h #[_,?h ha],_,rfl,?b5,?tU,ha,rfl,λv hv=>?_,λhn=>?_]
   . rw[xP];exact kq
   . rw[kZ]at hn;have hn':?SI:=by simpa using hn
     have e2:?eK=ms:=by
      unfold Jd;rw[List.filter_eq_self];intro p hp
      have:¬?dA:=λz=>by
       have h3:?SD:=qq7.mpr #[p,hp,?D3];rw[Za]at h3;let#[p',xC,e']:=?b8 h3;rw[←e']at hn'
       have:∀(ns:Ms),p'∈ns->?dB ns p'.1≠none:=by
        intro ns
        induction ns with
        | nil=>ext c9
        | cons q ns ih =>
          intro hq;rw[Dw];split
          . exact ?AP
          . rename_i hne
            rcases qd9.mp hq with rfl | hq
            . exact ?aA rfl hne
            . exact ih hq
       exact ?a0 ms xC hn'
      ext cT
     rw[e2,ZX ha]at kq;exact kq
 . have e:¬?iP=0:=?Y
   unfold Jo at kq;rw[?cI]at kq;exact#[_,rfl,_,rfl,_,rfl,a,_,rfl,Sc ha hl,kq]
noncomputable abbrev DR:Stmt:=top 17
def QV:?a9 ?CL ?CL (Ar DR):=Bi
def RS[?aC](F:E9 K "times" "times" DR f fd)[?aB] :?a1K ?CL Uo:=by
 apply ?a23 QV;let#[n,a,ms,rfl,ha,hm,hok,k]:=h
 apply#[_,(Ac (?a6O (?a2F Fb ?l) G9)
  (?a7T (Cg (aE ?q) ?q T.n_dict Dx (Aa (jL (B8 (N':=?Y4) (cap:=[none,none,?d 0]) ?q ?c2 (Lp ?K) (?a1P (?a6J YQ (?a7M 1 YQ))) ?d0 (?a1P (Es (Aa ?l (Aa (Bh Jt ?V ?K) Ad)))))) Ad)))),?_]
 ext cU
 ext nD;ext cR
 . have e:n=0:=?Y
   intro D hD;apply k D _ hD (?gN) ?_;rw[Ab];unfold Hv;rw[?b1];rfl
 have e:¬n=0:=?Y
 ext ZO
 let Pq4:?dE:=λi zs τ H1=>Ea λ(ts:?AD)=>Nm (zs=ts.map V.ref) (ts.length=i) ((∀(j:Nat) t,ts[j]?=?d t->∃p:?b2,ms[j]?=?eW/\H1 t=?d (?D [?e p.1,?OV])/\t≠D)) (?a4X o) (H1 D=?i7) ((?a5R a)) (?a2R iS n)
 apply Ub (d:=a) (o:=o) (kvs:=?b5) Pq4
  #[[],rfl,rfl,(λj t z=>?SS),?_,Ab,?_,?A,?A,rfl] (?a47 #[_,_,_,_,e,_]) ?_ ?_
 . rw[?r3];exact Ab
 . ext a0M
 . rintro i kk x zs τ H1 p hx ⟨ts,rfl,mG,hts,ha1,D7,hk1,o1,o2,rfl⟩ hp;ext ZJ;ext EX;apply#[_,rfl,_,rfl,_,rfl,_,_,rfl,rfl,?WH,?fA,λt ht=>?_];have st:=sp.trans (?b3 (o:=?D [?e q.1,?e (n*q.2)]) ht);have ntD:t≠D:=(Aq (?zW) ht).symm;apply#[st _ _ D7,?dT (by rw[qa4];omega),ts++[t],?gS,by simp[mG],λj t' e2=>?_,?_,Ab,?IG,_,_,rfl]
   . rw[List.getElem?_append]at e2;split at e2
     . let#[p',HS,h2',h3']:=hts j t' e2;exact#[p',HS,by rw[Al h3'];exact st _ _ h2',h3']
     . rename_i hj
       have hj0:j-ts.length=0:=by
        cases hz:j-ts.length with
        | zero=>rfl
        | succ m=>rw[hz]at e2;simp at e2
       rw[hj0]at e2;have et:t=t':=by simpa using e2
       subst et;apply#[q,by rw[?a3O j i];exact hq,?_,ntD];rw[Al ntD];exact Ab
   . rw[?r3];exact st _ _ ha1
   . have:=?HR;rw[?a52 Al];exact st _ _ ?a0
 . rintro zs τ H1 ⟨ts,rfl,mG,hts,ha1,D7,hk1,_⟩;rw[Kn]at mG;apply#[ha1,D,ts,cK (?a6G ?iY),rfl,(?a4T nDa),(by rw[Kn,qa4];exact mG),λi t e2=>?_,λE hE=>?_]
   . let#[p,HS,h2',_]:=hts i t e2;apply#[(?h p.1,?OV),?_,?_]
     . unfold cK;rw[qb0,qb0,HS];rfl
     . have nta:t≠a:=Fo h2' ha1 (?AP);rw[Al nta];exact h2'
   . have s1:?F H (upd H1 a ?gX):=λc q e2=>by
      by_cases z:c=a
      . ext F2
      . rw[Al z];exact ?GX
     apply k E _ (s1.free hE) (?mI (?b3 hE)) ?_;rw[Ab];have hnd':?bD:=?N6;rw[Pb _ [] (by rw[qo9];exact Lr.mpr (JS hnd' n))];unfold Hv;rw[?cI,qo9]
noncomputable abbrev dR:Stmt:=top 18
def qV:?a9 ?xO ?xO (Ar dR):=Bi
def RQ[?aC](F:E9 K "weigh" "weigh" dR f fd)[?aB] :?a1K ?xO FZ:=by
 apply ?a23 qV;let#[a,b,ms,ns,rfl,ha,hb,nab,hm,hok,k]:=h;have On:=hr.u8;apply#[_,(?a7T (Az (JZ (K:=K) ?q) T.n_sum PV (Aa (jL (B8 (N':=?V0) (cap:=?G4) ?q ?c2 (Lp ?l) (?a1P (?a6J yQ (?a7M 1 yQ))) ?d0 (?a1P (Bh Jt ?K (Qu ?gB ?V ?l Ak ?pX))))) Ad))),?_];ext ZO
 let Pq5:?dE:=λi zs τ H1=>C9 (zs=(?S2 λp=>p.2*?KU).map ?X) (?a4X o) (H1 D=?i7) ((?a5R a)) (?a2R rS b)
 apply Ub (d:=a) (o:=o) (kvs:=?b5) Pq5
  #[rfl,?_,Ab,?_,?A,?A,rfl] (?a47 #[_,e,_]) ?_ ?_
 . rw[?r3];exact Ab
 . ext a0M
 . rintro i kk x zs τ H1 p hx C6 hp;revert τ;apply sU ?_;intro hz1 ha1 D7 hk1 o1 o2 Er;subst hz1;ext ZJ
   have hb1:?a4V H1:=by
    rcases hb with h|⟨z,h⟩
    . exact ?h (?LM)
    . exact ?m #[z,?LM]
   have hb2:=lT sp hb1;ext EX;apply#[_,rfl,_,rfl,b,rfl,?h #[_,hb2],_,rfl,_,Vl hb2,q.2,Au ns q.1,rfl,Vx ns q.1,?WH,?_];apply#[?zW,?dT ?gE,?_,?_,Ab,?IG,_,_,rfl]
   . rw[qn0,hq,qb4,qb4];rfl
   . rw[?r3];exact sp _ _ ha1
   . rw[?a52 Al];exact sp _ _ (?HR)
 . rintro zs τ H1 ⟨rfl,ha1,D7,hk1,_⟩;rw[Kn,qd2]at D7;apply#[ha1,D,_,rfl,.of (?a4T nDa),k _ ?Q6];by_cases z:c=a
   . ext F2
   . rw[Al z];exact ?GX
noncomputable abbrev Jj:Stmt:=top 30
def Uy:?a9 ?i9 ?i9 (Ar Jj):=Bi
def U6[?aC](F:E9 K ?RJ ?RJ Jj f fd)[?aB] :?a1K ?i9 lR:=by
 apply ?a23 Uy;let#[v,xs,rfl,hL,hx,k]:=h;let#[Sr,BN]:=T.x_MOST_PIECES;let#[a,us,rfl,hq,r]:=id hL;have hl:us.length=xs.length:=by have:=r.length;ext cT
 apply(?a6L (M5 (?a7N (Fz (v:=.ty ?pB) rfl T.n_list Ei rfl)) (Pa (Kv LU ?kB (Ku (v:=?e 40) ?q BN ?hB) ?aI))));apply#[_,rfl,?N,?pB,_,rfl,?m (?a4Y ?h),hL,_,rfl,?_];apply eO ?q ?_;apply#[_,rfl,a,_,rfl,?h hq,_,_,rfl,rfl,?_];show Q (.bl (?k ((us.length:Int)<=40))) H;rw[qf2 ?g];exact k
noncomputable abbrev Z3:Stmt:=top 40
def NQ:?a9 ?D4 ?D4 (Ar Z3):=Bi
def oB[?aC](F:E9 K ?YT ?YT Z3 f fd)[?aB] :?a1K ?D4 bX:=by
 apply ?a23 NQ;let#[v,h,w,j,f,rfl,hv,hh,hj,k]:=h;let#[a,us,rfl,hq,Ys,Pi]:=Iz hv;apply(?a6L (B8 (N':=?JQ) (cap:=?vI) ?q ?c2 (Cd (K:=K) ?l) (?a1P (?a7M 0 Ae8)) ?d0 (?a1P (Ba (Be (K:=K)) ?l ?K ?aG))));apply(?a2J a hq)
 let Pq6:?dE:=λi ys τ H1=>By ?k3 ?sY (ys=VI i (λi=>f i j)) (?a3Z [o,iS j])
 apply Cs (K:=K) (a:=a) (xs:=us) Pq6
  ?qG (λi ys τ H1 _ hz=>by let#[s1,_]:=hz;exact ?mQ hq) ?_ ?_
 . rintro i x ys τ H1 hx C6;ext nF;intro s1 D7 hz1 o Er;subst hz1;let ?GE:=Pi i _ hx;apply#[_,rfl,_,rfl,b,_,_,_,rfl,rfl,?mQ hb,A86 hj,?_];apply#[D7,?CY,?S5,Ab,?_,_,rfl];rw[V0]
 . rintro ys τ H1 ⟨s1,D7,rfl,_⟩;rw[Ys]at D7;exact ?DT
noncomputable abbrev Wn:Stmt:=top 42
def jE:?a9 ?w3 ?w3 (Ar Wn):=Bi
def JN[?aC](F:E9 K ?PI ?PI Wn f fd)[?aB] :?a1K ?w3 Zn:=by
 apply ?a23 jE;let#[n,i,rfl,hn,k]:=h;apply(?a6L (B8 (N':=?H8) (cap:=?vI) ?q ?c2 (Cf ?q ?lL ?tH) (?a1P (?a7M 0 Ae6)) ?d0 (?a1P (c5 (Bf Fb ?l ?K ?aI) Ak Ak))));apply ?SK
 let Pq7:?dE:=λj ys τ H1=>By ?k3 ?sY (ys=VI j (?R6)) (?a3Z [o,iS i])
 apply Kc Pq7
  ?qG ?_ ?_
 . rintro j ys τ H1 hj C6;ext nF;intro s1 D7 hz1 o Er;subst hz1;apply ?U2;have sz:(VI j ?R6).length<sizeLine:=?CY;ext cR
   . have e0:?hJ=?cJ:=?Y
     have e:j=i:=O9m
     apply ?J9;rw[V0,?b1]
   . have e0:¬?hJ=?cJ:=?Y
     have e:¬j=i:=O9m
     apply ?J9;rw[V0,?cI]
 . rintro ys τ H1 ⟨s1,D7,rfl,_⟩;rw[qf9]at D7;exact ?DT
noncomputable abbrev dS:Stmt:=top 44
def qW:?a9 ?xK ?xK (Ar dS):=Bi
def RT[?aC](F:E9 K "mixed" "mixed" dS f fd)[?aB] :?a1K ?xK Up:=by
 apply ?a23 qW;let#[a,b,x,y,n,p,q,rfl,hx,hy,hn,hm,k]:=h;apply#[_,(?a7T (B8 (N':=?PR) (cap:=[none,none,?d 0,?d 2]) ?q ?c2 (?a7E DV ?K) (?a1P (?a6J SE (?a7M 1 SE))) ?d0 (?a1P (Bh Cq (Bh Jt ?V ?l) (Bh Jt ?bP ?K))))),?_];apply#[_,rfl,_,rfl,x,y,rfl,#[_,hx],#[_,hy],?cK]
 apply cX (K:=K) (a:=x) (b:=y) (xs:=VI n p) (ys:=VI n q) (n:=n) (by rw[Bu,Bu,qv0]) (λi zs τ H1=>By ?k3 (H1 D=?i7) (zs=VI i (λj=>a*p j+b*q j)) (Ko λo1 o2=>τ=[o1,o2,iS a,iS b]))
  ?SH (λi zs τ H1 _ hz=>by let#[s1,_]:=hz;exact#[?mQ hx,?mQ hy]) ?_ ?_
 . rintro i u v zs τ H1 pr hu hv C6 hp;revert τ;apply yT ?_;intro s1 D7 hz1 o1 o2 Er;subst hz1;let#[hi,rfl]:=Xm hu;let ?hB:=Xm hv;have sp:?a4N pr (?D [?e (p i),?e (q i)]):=?hF;ext EW;apply#[_,rfl,_,rfl,_,_,rfl,rfl,(hm i hi).1,_,rfl,_,rfl,_,_,rfl,rfl,(hm i hi).2,_,_,rfl,rfl,?_];apply#[?zW,?CY,(?mI sp).turn hD,Ab,?_,_,_,rfl];rw[V0]
 . rintro zs τ H1 ⟨s1,D7,rfl,_⟩;exact ?DT
noncomputable abbrev Ov:Stmt:=top 50
def aS:?a9 ?AO ?AO (Ar Ov):=Bi
def aV[?aC](F:E9 K ?NX ?NX Ov f fd)[?aB] :?a1K ?AO Ss:=by
 apply ?a23 aS;let#[a,b,sp,ms,rfl,mH,hb,hl,kq]:=h;have On:=hr.u8;apply(?a6L (B8 (N':=?OF) (cap:=?vI) ?q ?c2 (Cd (K:=K) ?l) (?a1P (?a7M 0 Ae4)) ?d0 (?a1P (Qu ?gB ?K ?l Ak ?pX))));apply(?a2J a mH)
 let Pq8:?dE:=?a77 (ys=((sp.take i).map (Au ms)).map ?X) [o,rS b]
 apply Cs (K:=K) (a:=a) (xs:=?lV ?X) Pq8
  ?qG (λi ys τ G _ hz=>by let#[g,_]:=hz;exact g.seq mH) ?_ ?_
 . rintro i x ys τ G hx C6;ext nF;intro g Eu hys o Er;have hi:?AA:=?TH
   have hxv:x=?e sp[i]:=by
    rw[qb0,?k0]at hx;simpa using hx.symm
   subst hxv;have V6:=lT g hb;apply#[_,rfl,b,rfl,?h #[_,V6],_,rfl,_,Vl V6,?_];rw[Vx];apply#[Eu,?dT (by rw[hys,qa4,qa4,qd5];omega),g.turn hD,Ab,?_,_,rfl];rw[qe7,?k0,qb4,qb4,hys];rfl
 . rintro ys τ G ⟨g,Eu,hys,_⟩;rw[qa4,qd2]at hys;apply kq D G hD g ?_;rw[Eu,hys]
noncomputable abbrev Z6:Stmt:=top 54
def NR:?a9 ["turn"] ["turn"] (Ar Z6):=Bi
def OD[?aC](F:E9 K ?UH ?UH Z6 f fd)[?aB] :?a1K ["turn"] bY:=by
 apply ?a23 NR;let#[u,t,rfl,hu,k]:=h
 apply#[_,(Ac (?a6O (Bf Fb ?kH O9 ?aI) (Es (Aa O9 (Aa ?kH (?a28 ?kH (Nw Je ?kH))))))
  (?a7T ?l)),?_]
 ext cU
 cases t with
 | ad i j n =>
   let ?yU:=hu;let ?RK:=rT;apply ?OI;apply eO (?z) ?_;apply#[_,rfl,ta,_,_,_,rfl,rfl,hT,rfl,_,rfl,ta,_,_,_,rfl,rfl,hT,rfl,_,rfl,ta,_,_,_,rfl,rfl,hT,rfl,_,rfl,?fA,?TK];exact k _ _ (?b3 hT1) #[T1,_,rfl,?fW,?RK]
 | mi i =>
   let ?yU:=id hu;let#[_,_,rfl,rfl,_,_,rfl,rfl,rfl]:=rT;ext ZK
 | sw i j =>
   let ?yU:=id hu;let#[_,_,rfl,rfl,_,_,rfl,rfl,_,_,rfl,rfl,rfl]:=rT;ext ZK
noncomputable abbrev Ff:Stmt:=Fd (top 55) 0
def Yi:?a9 ?D1 ?D1 (Ar Ff):=Bi
def P3[?aC](F:E9 K ?pT "Lines.__init__" Ff f fd)[?aB] :Bv P w K mg ?O Eo 1 f fd ?D1 (Np K Ag Af Aj):=by
 apply ?a23 Yi;let#[p,dx,C,r,b,rfl,hC,hp,k]:=h
 have hc:Cls K C/\Dy K C ?mK/\Dy K C ?kI:=by
  rcases hC with rfl | rfl
  . exact#[T.cl_Lines,T.na_Lines_rows,T.na_Lines_backs]
  . exact#[T.cl_Stairs,T.na_Stairs_rows,T.na_Stairs_backs]
 apply#[_,(Ac (Fc (K:=K) ?l ?K)
  (Ai (Fc (K:=K) ?l ?V))),?_]
 ext cU
 apply#[_,rfl,_,rfl,p,C,dx,_,rfl,hp,hc.1,hc.2.1,?gS,?_];apply#[_,rfl,_,rfl,p,C,dx,_,rfl,Ab,hc.1,hc.2.2,by simp[putF],?_];exact k _ _ rfl rfl
noncomputable abbrev Tk:Stmt:=top 59
def Qh:?a9 [?eV,"at"] [?eV] (Ar Tk):=Bi
def GQ[?aC](F:E9 K ?GP ?GP Tk f fd)[?aB] :?a1K [?eV] Uv:=by
 apply ?a23 Qh;let#[c,W,st,u,rfl,hq,hb,hW,k]:=h;let#[b1,b2,b3]:=hb
 apply#[_,(Ac (Ao (i:=1) Qh.nd Ak)
  (Ac (U1 qb8 (Bf Fb (?a29 ?K) Ak ?aI) (Ai (Ao (i:=1) Qh.nd (Bh Cq ?K Ak))))
  (?a7T ?K))),?_]
 ext cU
 apply Ew (λσ' H'=>σ'=[rS c,?a2V ?sK]/\H=H') ?_ ?QZ;apply Ia ?_;intro sq;apply ?a4R (λσ' H'=>σ'=[rS c,?d (?e (st:Int))]/\H=H')
 . apply#[λm σ G=>Ea λ ?o6=>By (σ=[rS c,?a2V ?c5]) (H=G) (j<=st) (m=st-j),#[_,0,rfl,rfl,?aX,rfl],?_];rintro m σ _ C6;apply WV ?_;intro _;let#[j,rfl,rfl,hj,rfl]:=C6;apply#[_,rfl,_,rfl,c,_,_,_,rfl,rfl,hq,Bo (Co O9m),rfl,_,rfl,?_];ext cR
   . have h0:u j=0:=?Y
     have hlt:j<st:=Nat.lt_of_le_of_ne hj λz=>b2 (z▸h0);apply#[λσ' G'=>Ea λ(j':Nat)=>Ev (σ'=[rS c,?d (?e (j':Int))]) (H=G') (j'=j+1),?_,?_]
     . rintro σ' G' ⟨j',rfl,rfl,rfl⟩;exact#[st-?bG,O9m,j+1,rfl,rfl,hlt,rfl]
     . exact#[_,rfl,_,_,rfl,rfl,j+1,rfl,rfl,rfl]
   . have h0:¬u j=0:=?Y
     have hlt:j=st:=by
      rcases qh3 j st with h | h
      . exact ?aA (b1 j h) h0
      . omega
     subst hlt;exact key _ _ ?vV
 apply Ia ?_;intro sq;exact#[_,rfl,k]
noncomputable abbrev Mu:Stmt:=top 64
def Le:?a9 [?gU,"i",?eV] [?gU] (Ar Mu):=Bi
def c8[?aC](F:E9 K ?WI ?WI Mu f fd)[?aB] :?a1K [?gU] P1:=by
 apply ?a23 Le;let#[v,n,w,M,rfl,hv,hn,hw,k1,k2]:=h;let#[ta,us,rfl,hq,Ys,Pi]:=Iz hv
 apply#[_,(Ac (B6 qb8 rfl (U3 (K:=K) ?q ?Q3 ?tH) (Dm (K:=K) (n:=2) ?q (Bl (?a7M 1 Le.nd) (Bl (?a7M 2 Le.nd) Dl))) (Ai (Bx (C5 (Az (m9 (K:=K) ?q) T.n_any DB (Aa (B8 (N':=?X1) (cap:=?G4) ?q ?c2 (U3 (K:=K) ?q ?Q3 (Aa ?V Ad)) (?a1P (?a6J sA (?a7M 1 sA))) (?a1P (Y5 (Bf Ib ?l ?V ?aI))) (?a1P (Kv Ib ?K Ak ?aI))) Ad))) ?tB Bj)))
  ?tB),?_]
 ext cU
 apply ?a4R (λσ' H'=>Ko λo1 o2=>Ev (σ'=?RO) (?Z) (?l4))
 . apply#[_,rfl,ta,rfl,#[us,hq],?_]
   let Pq9:?jB:=λi σ G=>Ko λo1 o2=>Ev (σ=?RO) ?u4 (?zZ i w M)
   apply y7 (K:=K) (a:=ta) (xs:=us) Pq9
    #[?A,?A,rfl,Same.refl H,λi j hi=>O9m] (λi σ G _ hz=>by let#[_,_,_,s1,_]:=hz;exact ?mQ hq) ?_ ?_
   . rintro i v σ G p hv C6 hp
     and_intros
     revert σ;apply YY ?_;intro o1 o2 s1 hS Er;let ?GE:=Pi i v hv;have sp:?F G (?YU):=?hF;ext EX;generalize ?YU=G1 at sp;have s2:=?mI sp;apply(?a2J b ?NW)
     let B15:?dE:=λj zs τ G2=>Ea λ(bs:?zA)=>Nm (zs=?xL) (bs.length<=j) ((?D2↔∃c,c<j/\c≠i/\M i c≠0)) (?F G1 G2) (G2 D=?i7) (j<=w) (?a2R ?d (?e ?cJ))
     apply CY (K:=K) (a:=b) (xs:=VI w (M i)) B15
      #[[],rfl,?b4,#[λz=>?SS,λ#[c,hc,_]=>O9m],?gN,Ab,?aX,?A,?A,rfl] (λj zs τ G2 _ hz=>by let#[_,_,_,_,g,_]:=hz;exact g.seq (?NW)) ?_ ?_
     . rintro j y zs τ G2 pr hy ⟨bs,rfl,hbl,hiff,g,Eu,hj,q1,q2,rfl⟩ hpr;let#[hjw,rfl]:=Xm hy;have gp:?F G2 (?PJ):=?b3 hpr;ext EW;generalize ?PJ=G3 at gp;apply ?U2;ext cR
       . have hji:j≠i:=by
          have:¬(?o6:Int)=?cJ:=?Y
          omega
         apply#[_,rfl,rfl,?KE,?dT (by rw[qa4];omega),bs++[!(?k (M i j=0))],?_,?o1,?_,(?JW).turn hD,Ab,hjw,_,_,rfl]
         . rw[qb4]
           congr 1
           by_cases z:M i j=0<;>simp[z]
         . rw[List.any_append,qs1,hiff];constructor
           . rintro (⟨c,h1,h2,h3⟩ | h)
             . exact ?YS
             . exact#[j,O9m,hji,?uM]
           . rintro ⟨c,h1,h2,h3⟩;rcases qh3 c j with h | h
             . exact ?h #[c,h,h2,h3]
             . have:c=j:=O9m
               subst this;exact ?m (by simpa using h3)
       . have hji:j=i:=by
          have:(?o6:Int)=?cJ:=?Y
          omega
         apply#[bs,rfl,O9m,hiff.trans #[λ#[c,h1,h2]=>#[c,O9m,h2],λ#[c,h1,h2,h3]=>?YS],?JW,?KE,hjw,_,_,rfl]
     . rintro zs τ G2 ⟨bs,rfl,_,hiff,g,Eu,_⟩;rw[Bu]at hiff;apply#[D,bs,rfl,.of Eu,_,rfl,?_];ext cR
       . have h2:?D2:=?Y
         let#[c,c1,c2,c3]:=hiff.mp h2;exact k2 (λz=>c3 (z i c hi c1 λe=>c2 ?iK)) _ (?A7 g)
       . have h2:¬?D2:=?Y
         apply#[_,_,rfl,?A7 g,λx c hx hc hne=>?_];rcases qh3 x i with h | h
         . exact hS x c h hc hne
         . have:x=i:=O9m
           subst this;exact qg7 λz=>h2 (hiff.mpr #[c,hc,λe=>hne ?iK,z])
   . rintro σ G C6;revert σ;apply YY ?_;intro o1 o2 s1 hS Er;rw[Ys]at hS;exact key _ _ #[_,_,rfl,s1,hS]
 apply yD λo1 o2 G s1 hS=>?_;intro sq;exact k1 hS _ s1
noncomputable abbrev Io:Stmt:=top 70
def Ti:?a9 ?oT ?oT (Ar Io):=Bi
def Tz[?aC](F:E9 K ?WP ?WP Io f fd)[?aB] :?a1K ?oT La:=by
 apply ?a23 Ti;let#[a,us,ps,rfl,ha,rU,hpl,kq]:=h;apply(?a6L (B8 (N':=?IZ) (cap:=?zD) ?q ?c2 (Cd (K:=K) ?l) (?a1P (?a7M 0 Ae2)) (?a1P (Y5 (Bf Ib ?kH Ak ?aI))) (?a1P ?l)));apply#[_,rfl,a,rfl,#[_,.of ha],?cK];have ul:=rU.len
 let B14:?dE:=?a77 (B4 G ys (Hr (ps.take i))) [o]
 apply cY (K:=K) (a:=a) (xs:=us) B14
  #[?gN,Ab,trivial,?A,rfl] (λi ys τ G _ hz=>by let#[h1,_]:=hz;exact .of (h1 _ _ ha)) ?_ ?_
 . rintro i v ys τ G hv C6;ext nF;intro h1 Eu rY o Er;have hi:=(?aR hv).1;let#[p,hp,pv]:=rU.get hv;have pv1:=pv.same h1;let#[t,c1,c2,c3,rfl,et,_]:=id pv1;have etk:ps.take ?H=ps.take i++[p]:=by rw[qe7,hp];rfl
   have yl:ys.length<=1000:=by
    have h2:=rY.len;have h3:=qi0 (λp:Bc=>?k (p.1≠1)) (ps.take i);rw[qd5]at h3;unfold Hr at h2;omega
   apply#[_,rfl,t,_,_,_,rfl,rfl,.of et,rfl,rfl,_,rfl,?_];ext F6
   . have hb3:¬?g5:=?g8
     apply#[_,rfl,Eu,?m9,h1.turn hD,Ab,?_,_,rfl];rw[etk,gZ,?j hb3];exact B4.snoc (?qA Eu rY) (pv1.put Eu)
   . have hb3:?g5:=?g8
     apply#[h1,Eu,?_,_,rfl];rw[etk,gZ,?o hb3];exact rY
 . rintro ys τ G ⟨h1,Eu,rY,_⟩;rw[ul,qd2]at rY;exact kq D ys G hD h1 Eu rY
noncomputable abbrev Wr:Stmt:=top 74
def jG:?a9 ["_law_found"] ["_law_found"] (Ar Wr):=Bi
def JP[?aC](F:E9 K ?YW ?YW Wr f fd)[?aB] :?a1K ["_law_found"] Oq:=by
 apply ?a23 jG;ext ZE
 . ext ZN
   ext jM
 . have e2:?X9:=?U5
   ext jM
noncomputable abbrev Ws:Stmt:=top 75
def JG:?a9 ["_law_piece"] ["_law_piece"] (Ar Ws):=Bi
def jQ[?aC](F:E9 K ?Z0 ?Z0 Ws f fd)[?aB] :?a1K ["_law_piece"] F8:=by
 apply ?a23 JG;let#[v,ds,rfl,hs,k]:=h;apply(?a6L (Bh G0 (Az ?P0 T.n_max DA (?a28 Ak ?kB)) Ak))
 obtain⟨t,us,rfl,hq,r⟩:∃t us,v=?eL/\(?a37 t us\/?a4U t us)/\?OJ:=by
  rcases hs with⟨t,us,e,h1,h2⟩|⟨t,us,e,h1,h2⟩
  . exact#[t,us,e,?h h1,?GA]
  . exact#[t,us,e,?m h1,?GA]
 apply#[_,rfl,t,us,rfl,hq,_,_,rfl,_,_,rfl,rfl,?_];rw[r];have e:?a5O 1=De ds.length:=by unfold De;split<;>split<;>omega
 show Q (?e (?a5O 1)) H;rw[e];exact k
noncomputable abbrev Gy:Stmt:=top 77
def Gb:?a9 [?D8,"_law_chain","_law_place"] [?D8] (Ar Gy):=Bi
def Q1[?aC](F:E9 K ?LJ ?LJ Gy f fd)[?aB] :?a1K [?D8] Qe:=by
 apply ?a23 Gb;let#[a,ms,rfl,ha,hm,k]:=h;have On:=hr.u8
 apply#[_,(Ac (Ao (i:=1) Gb.nd G9)
  (Ac (Qt (B6 qb8 rfl (Y6 ?l) (?a7M 2 Gb.nd) (Ai (Bx (?a2F Ib (Rx ?gB ?l ?V ?aG)) (Ai (Rw ?gB ?K ?V (Rx ?gB ?l ?V ?aG) ?q)) Bj))))
  (?a7T ?K))),?_]
 ext cU
 intro D hD;have naD:a≠D:=Aq ha hD;apply ?m #[a,?b5,(by rw[Al naD];exact ha),?VW];have oR:?bD:=?N6;apply#[_,rfl,a,o,?b5,rfl,Ab,?_]
 let B13:?jB:=λi σ H1=>Ea λo1=>By (σ=[rS a,rS D,o1]) (?a4X o) (H1 D=?a1R (?uC)) ((∀c q,c≠a->c≠D->?t1))
 apply Vj (d:=a) (o:=o) (kvs:=?b5) B13
  #[?A,rfl,Ab,?_,λc q n1 n2 e=>by rw[Al n1,Al n2];exact e] (λi σ H1 _ hz=>by let#[_,_,e,_]:=hz;exact e) ?_ ?_
 . rw[Al naD.symm,Ab];rfl
 . rintro i kk x σ H1 hx C6
   and_intros
   ext a10;let ?Y2:=Ma hx;have hlt:?BU:=?DQ;have hat:?dB ms q.1=?d q.2:=E5 oR ?W3;apply#[_,rfl,_,rfl,a,?BE,rfl,?LF,rfl,_,rfl,?_];have ct:=CV hq;ext cR
   . have e:¬?pQ:=?Y
     rw[?cI]at ct;have ln:?a2K ?uC 1000000:=by have:=MB (ms.take i);rw[qd5]at this;omega
     apply#[_,rfl,_,rfl,a,?BE,rfl,?LF,_,rfl,_,rfl,D,_,rfl,Sc D7 ln,?_];apply#[_,rfl,?_,?_,λc r n1 n2 e2=>?_]
     . rw[Al naD];exact ha1
     . rw[Ab,put_new (XM (qQ oR hq)),ct]
     . rw[Al n2];exact hk1 c r n1 n2 e2
   . have e:?pQ:=?Y
     rw[?b1]at ct;exact#[_,rfl,ha1,by rw[ct];exact D7,hk1]
 . rintro σ H1 C6;ext a10;rw[Kn,qd2]at D7;apply#[ha1,_,rfl,k D _ hD (?Q6) (?a4T naD.symm)];by_cases z:c=a
   . ext F2
   . rw[Al z];exact hk1 c q z (Aq e2 hD) e2
noncomputable abbrev Qp:Stmt:=top 83
def DQ:?a9 ?yW ?yW (Ar Qp):=Bi
def DY[?aC](F:E9 K ?XT ?XT Qp f fd)[?aB] :?a1K ?yW Uu:=by
 apply ?a23 DQ;let#[a,ns,k,rfl,hS,h0,hl,kq]:=h
 apply#[_,(Ac (?a6O (Bf Qv ?K ?kB ?aI) (?a29 ?K))
  (?a7T Ak)),?_]
 ext cU
 apply#[_,rfl,_,rfl,a,_,rfl,?h hS,_,_,rfl,rfl,_,rfl,?_];ext cR
 . have h2:k<(ns.length:Int):=?Y
   have e:BP ?rZ k=?a2V (Xj ns k):=by
    let#[j,rfl]:=qp3 h0;apply Bo ?_;have hj:j<ns.length:=O9m
    rw[qb0,?e6];simp[Xj,hj]
   exact#[_,rfl,_,rfl,a,_,k,_,rfl,rfl,hS,e,kq]
 . have h2:¬k<(ns.length:Int):=?Y
   have e:Xj ns k=0:=by
    unfold Xj;have:ns.length<=k.toNat:=O9m
    simp[this]
   rw[e]at kq;exact kq
noncomputable abbrev Oz:Stmt:=top 84
def Js:?a9 [?oR,?E1,"_law_size","_law_faces",?XO] ?ON (Ar Oz):=Bi
def aX[?aC](F:E9 K ?U9 ?U9 Oz f fd)[?aB] :?a1K ?ON Mt:=by
 apply ?a23 Js;let#[v,w,fam,rfl,hv,hw,k]:=h;let#[aw,rfl,hq]:=hv.sq;have hlen:?a4D ?C7 w.length:=qa4 ..;have hl4:w.length<=4:=by rcases hw with z | z | z<;>omega
 apply#[_,(Ac (Ao (i:=2) Js.nd ?kB)
  (Ac (Bx (?a2F Fb ?K) (Ac (?a6O (?a2F Qv ?V) (Gz Ad))
  (?a7T (B8 (N':=?SB) (cap:=[none,?d 0]) ?q ?c2 (?a39 ?V) (?a1P (?a7M 0 Ad9)) ?d0 (?a1P (Bh (Va (K:=K)) (Fh ?j1 ?K Ir (Fr ?l)) (Fh ?j1 ?K (Fr (Bh Cq ?l Ak)) Ir)))))) Bj)
  (Ac (?a6O (?a2F Fb ?V) (Gz Ad))
  (Ac (Bx (?a2F Qv ?K) (Ac (?a6O (?a2F Fb ?V) (Gz (?a28 (Es Ad) (Es Ad))))
  (?a7T (B8 (N':=["_law_letter"]) (cap:=?zD) ?q ?c2 (U9 (K:=K) ?l) (?a1P (?a7M 0 Ae0)) ?d0 (?a1P (Es ?tH))))) Bj)
  (Ac (Ao (i:=3) Js.nd (Gz (Aa (Fh ?j1 ?l (Fr Ak) Ir) Ad)))
  (Ac (B6 qb8 rfl (?a39 (Bh G0 ?V Ak)) (?a7M 4 Js.nd) (Ai (?a3S (Bh (Va (K:=K)) (Bh (Va (K:=K)) (Fh ?j1 ?l Ir (Fr ?uO)) (Es (Aa (Bh Eg (Bh Cq (Ba ?cG ?l ?uO ?aG) (Ba ?cG ?l (Bh Cq ?uO Ak) ?aG)) ?K) Ad))) (Fh ?j1 ?l (Fr (Bh Cq ?uO Ak)) Ir)))))
  (Ac (?a3S (Fh ?j1 ?l Ir (Fr (Bh G0 ?V Ak))))
  (?a7T ?bP)))))))),?_]
 ext cU
 apply#[_,rfl,aw,_,rfl,?xR,?_];rw[hlen];ext nD;ext cR
 . have hf:fam=0:=?Y
   subst hf;apply ?L9;ext F6
   . have h3:w.length<2:=by have:?gL<2:=?g8
                            omega
     ext a04;have e:Aw w 0=[]:=by unfold Aw;rw[?L,?o h3]
     rw[e];rfl
   . have h3:¬w.length<2:=by have:¬?gL<2:=?g8
                             omega
     have e:Aw w 0=(?cZ ?TC).map ?BA:=by unfold Aw;rw[?L,?t0]
     rw[e]at k;apply ?SK
     let B12:?dE:=λi ys τ H1=>C9 (i<=w.length) ?k3 ?sY (?a61 H1) (?a3Z [o,rS aw])
     apply Kc B12
      ?Y3 ?_ ?_
     . rintro i ys τ H1 hi C6;ext a0V;have hi2:?B6:=by simpa using hi
       have hq1:SqT K H1 aw ?qL:=?ST;apply#[_,rfl,_,rfl,_,rfl,aw,_,rfl,hq1,?_,λp1 H2 s2 q2=>?_]
       . ext FM;rw[?M0,HT.sIx_nat]at z;omega
       apply#[_,rfl,_,rfl,_,_,rfl,rfl,_,rfl,aw,_,rfl,s2.seqT hq1,?_,λp2 H3 s3 q3=>?_]
       . ext FN;rw[?GH,HT.sIx_nat]at z;omega
       rw[?M0,Vt]at q2;rw[?GH,Rg]at q3;apply#[p1,p2,_,_,rfl,rfl,?pZ q2,q3,?_,λp H4 s4 q4=>?_]
       . apply Cb ?_;simp only[qd5,qj3,qa4];omega
       have GK:?F H1 H4:=?wH;have HR:H4 D=?m0:=GK _ _ D7
       have t4:TI K H4 (?aW) (?OD):=by
        apply ?s7;rw[qb4,qp0,qr3];exact q4
       have r4:?a61 H4:=?oW GK r1;have hyl:?Z1:=by have:=r1.length;ext cT
       apply#[HR,?m9,O9m,(?mI GK).turn hD,Ab,?_,_,rfl];rw[qk9,qb4];exact ?QS
     . rintro ys τ H1 ⟨_,s1,D7,r1,_⟩;rw[show(?gL).toNat=w.length by omega]at r1;exact ?S7
 . have hf:¬fam=0:=?Y
   ext nD;ext F6
   . have h3:?TM:=?g8
     ext a04;have e:?tN=[]:=by unfold Aw;rw[?u1,?o h3]
     rw[e];rfl
   have h3:¬?TM:=?g8
   apply ?L9;apply ite2 (λh4=>?_) (λh4=>?_)
   . have h5:fam<0:=?HU
     ext nD;apply ite2 (λh6=>?_) (λh6=>?_)
     . have h7:?KS:=by
        have:?gL=1:=?V4
        omega
       have e:?tN=[[],[]]:=?a4S ?o
       rw[e]at k;apply#[?aX,λp1 hp1=>#[?aX,λp2 hp2=>#[?fA,?bY]]];have s1:?F H (?a3G p1 (?D [])):=?b3 hp1;have s2:?F (?a3G p1 (?D [])) (?a2M H):=?b3 hp2;have s3:?F (?a2M H) (upd (?a2M H) p (?s [?mG,?f p2])):=?hF;have hp0:?L0:=(?uQ).free hp;apply k p _ _ hp0 ((?uQ).trans s3) Ab ?_;have t1:TI K _ (?mG) []:=?qU (.of (s3 _ _ (s2 _ _ Ab)));have t2:TI K _ (?f p2) []:=?qU (.of (s3 _ _ Ab));exact#[_,_,rfl,t1,_,_,rfl,t2,rfl]
     . have h7:¬?KS:=by
        have:¬?gL=1:=?V4
        omega
       have e:?tN=w.map ?tC:=?a4S ?j
       rw[e]at k;apply(?a2J aw hq)
       let B11:?dE:=λi ys τ H1=>C9 (i<=w.length) ?k3 ?sY (?eP K H1 ys ((?U0 ?tC).map tI)) (?a3Z [o])
       apply Xh (xs:=?C7) B11
        ?Y3 (λi ys τ H1 _ hz=>by let#[_,s1,_]:=hz;exact ?ST) ?_ ?_
       . rintro i x ys τ H1 hx C6;ext a0V;have hi2:?B6:=?TH
         have hx2:x=?z9:=by
          rw[qb0,qa0 hi2]at hx;simpa using hx.symm
         subst hx2;apply#[_,rfl,?fA,?bY];have s2:?a4N p (?D [?z9]):=?hF;have HR:=s2 _ _ D7;have t4:TI K (upd H1 p (?D [?z9])) (?aW) [w[i]]:=?qU (?fW);have r4:=?oW s2 r1;have hyl:?Z1:=by have:=r1.length;simp at this;omega
         apply#[HR,?m9,O9m,(?uQ).turn hD,Ab,?_,_,rfl]
         have e2:(?mM ?H).map (?tC)=?U0 (?tC)++[[w[i]]]:=by
          rw[qe7,qa0 hi2,qb4];rfl
         rw[e2];exact ?QS
       . rintro ys τ H1 ⟨_,s1,D7,r1,_⟩;rw[hlen,qd2]at r1;exact ?S7
   have h5:¬fam<0:=?HU
   have hpos:0<fam:=O9m
   have e:?tN=?tV::((?cZ (?uK)).map ?xU)++[?I5]:=by
    unfold Aw;rw[?u1,?t0,?j h5]
   rw[e]at k;apply#[_,rfl,_,rfl,aw,_,rfl,hq,?_,λp1 H1 s1 q1=>#[?fA,?cK]]
   . ext FN;rw[?N0,HT.sIx_nat]at z;omega
   rw[?N0,Rg]at q1;have qG:?b6:=s1.free hD;have s2:?a4N D (?s [?mG]):=?gN
   have t1:TI K (upd H1 D (?s [?mG])) (?mG) (?tV):=by
    apply ?s7;rw[qr3];exact s2.seqT q1
   have hn:?NE=?uK:=O9m
   apply#[_,rfl,_,_,rfl,rfl,_,rfl,O9m,O9m,Ch (lo:=0) (n:=?NE)
    (λi σ H2=>Ko λ(ys:?v) (o:?kD)=>By (σ=[rS aw,iS fam,?a2V ?TC,rS D,o]) (?F H H2) (H2 D=?m0) (?eP K H2 ys ((?UU).map tI)))
    #[_,?A,rfl,?uQ,Ab,#[_,_,rfl,t1,rfl]] ?_ ?_]
   . rintro i σ H2 hi C6
     and_intros
     ext a0Z;rw[hn]at hi;ext a0R;have c0:?KD:=O9m
     have c1:(?dM+1)=?BV:=O9m
     have c2:(?dM+2)=((i+2:Nat):Int):=O9m
     have at0:BP ?qL (?dM)=?a2V (w.getD i 0):=by
      rw[c0];apply Bo ?_;rw[qb0,?e3];simp[show ?B6 by omega]
     have at1:BP ?qL (?dM+1)=?a2V (?x7):=by
      rw[c1];apply Bo ?_;rw[qb0,?e3];simp[show i+1<w.length by omega]
     apply#[_,rfl,?h #[rfl,_,SqL.of Nd],?_];apply#[_,rfl,_,rfl,_,rfl,aw,_,rfl,hq2,?_,?W0]
     . ext FM;rw[c0,HT.sIx_nat]at z;omega
     rw[c0,Vt]at qa;apply#[_,rfl,_,rfl,aw,_,_,_,rfl,rfl,?PU,at0,_,rfl,_,rfl,_,_,rfl,rfl,aw,_,_,_,rfl,rfl,?PU,at1,_,_,rfl,rfl,_,rfl,_,_,rfl,rfl,hpos,?fA,λpb hb=>?_];have sb:?F Ha (upd Ha pb (?D [?e ((w.getD i 0+?x7)%fam)])):=?b3 hb;apply#[pa,pb,_,_,rfl,rfl,sb.seqT qa,?fW,Cb ?gE,λpc Hc sc qc=>?_];have sac:=(sa.trans sb).trans sc;apply#[_,rfl,_,rfl,_,_,rfl,rfl,_,rfl,aw,_,rfl,sac.seqT hq2,?_,λpd Hd sd qd=>?_]
     . ext FN;rw[c2,HT.sIx_nat]at z;omega
     rw[c2,Rg]at qd;apply#[pc,pd,_,_,rfl,rfl,sd.seqT qc,qd,Cb ?gE,λpe He se qe=>?_];have qX:=(sac.trans sd).trans se;have hDe:=qX _ _ Nd
     have te:TI K He (?f pe) (?B3):=by
      apply ?s7;simp only[qb4,qp0,qr3,qc8,qq1];exact qe
     have hyl:ys.length=i+1:=by have:=r2.length;ext cT
     apply#[D,_,_,rfl,rfl,hDe,?m9,?_];apply#[_,_,rfl,(?PF qX).turn qG,Ab,?_]
     have e3:(?tV::((?cZ ?H).map ?xU)) =
      (?UU)++[?B3]:=by
      rw[qk9,qb4];rfl
     rw[e3];exact O8 hDe (?oW qX r2) te
   . rintro σ H2 C6;ext a0Z;rw[hn]at r2;ext a0R;have c1:(?gL-1)=((?uK:Nat):Int):=O9m
     apply#[_,rfl,?h #[rfl,_,SqL.of Nd],_,rfl,_,rfl,_,_,rfl,rfl,_,rfl,aw,_,rfl,hq2,?_,?W0]
     . ext FM;rw[c1,HT.sIx_nat]at z;omega
     rw[c1,Vt]at qa;have hDa:=sa _ _ Nd
     have ta:TI K Ha (?f pa) (?I5):=by
      apply ?s7;rw[qp0];exact qa
     have hyl:ys.length=w.length:=by have:=r2.length;simp at this;omega
     apply#[D,_,_,rfl,rfl,hDa,?m9,?_];apply#[_,rfl,?_];exact k D _ _ qG ((?PF sa).turn qG) Ab (O8 hDa (?oW sa r2) ta)
end
mutual
#check(4,[?a,?b,some,base,.int,.ref,(?kP),Same,(λkey=>?_),rS a,none,(pv 0),.inl,.lst,(pv 1),(pv 2),rS p,(pv 3),(Bk _),λDr A outer s H vs Q E hr h=>?_,F.okZ,FnScope,∀(T:?J7),a,∀{f:Addr}{fd:FuncData},a,Same.new,rS b,(λ_ _=>rfl),.inr,.tup,(pv 4),.(by decide),Rep.same,.(by decide +kernel),rS D,.(by infer_instance),T.cl_Work,putF,spot,iS k,.ins,T.cl_Stairs,(?E),?T7 ?T,(λ_ _ _ _ _ _=>En ?A),V.int,(k:Int),.(by and_intros),(?P6 Bd ?l),(Be (K:=K)),"shape",(pv 6),.(by ext a3),(?WZ ?o),(pv 5),(?PM F1 (λ_ _ _=>rfl)),.(by simpa using h1),W.findIn,(?VG Fn),"table",(?f0),.(by rotate_left),"self",rS hd,(by ext aD),.(by exact nomatch hl),.(by kernel_rfl),rS p1,(?VI ?p),(λ_ _ _ _ _ _=>Iy (?BR)),PW.pt,(λ_ _ _ _=>Cc),decide,Nat->?eB->St->Hp->Prop,.(by ((repeat (first | rw[As,?c9] | ext sO))<;>first | rfl | assumption)),.(by simpa using this),T.n_len,rS d,(i:Int),Nat->St->Hp->Prop,.(by rintro σ G C6;revert σ),.(by apply Ia ?_;intro sq),(?WY Ax),(?WY Bg),T.n_range,(pv 7),(?VI ?l),.(by apply ?R3 ?P),H=H',(0:Int),λEt=>?_,Reps.same,rS tp,if_neg,rS ga,rS t,"number",rS la,Gr.nd,?tZ V,"width",?e i,rS L,?c v,SameX,#[_,rfl],(pv 9),?c ?k,cK ms,iS i,qa9 _,λD hD=>?_,hc.1,s2.trans,T.cl_Book,Cb (?c1),.(by apply ?c6 (λh1=>?_) (λh1=>?_)),.(by apply#[_,rfl,rfl,_,rfl,?_]),H' D,"chain",.of Ab,(?P4 ?a1),iS fam,V.ref,T.na_Stairs_rows,(Aa ?l ?a0),.(by simp),.(by simp;omega),(?VJ ?V ?o),(pv 8),(-(B / g)),ite2,"turn",Kp.upd,?cH rfl,[?a9],(by ext G),λa ha=>?_,.(by apply(?RF _ rfl)),C4.nd,(?VI ?a1),"place",if_pos,"_law_shape",g.trans,"__init__","thing",(?P4 ?D),c%1000000%4,?T7 (0+?aP),T.n_dict,small,?c o,R.same,(i+1),s1.trans,?c q,?c ?GZ,Cp.nd,.(by rw[?KQ]),SameX.upd,Cv xs ?l9,"told",Reps,#[_,rfl,?_],?f D2,?T7 ?y1,T.cl_Lines,(?gP),(?QW (?bJ)),.of et,(u1 On),List.replicate,Rows,B9.nd,?cQ O9m,l.prog,T.n_list,"rows",.(by apply ?R3 (?c1)),.(by have On:=hr.u8),.(by rw[qa4];omega),rS ta,(?VI Ak),?m rfl,"_law_level_here",?c (?e ((?iD:Nat):Int)),"other",Dk.nd,R.same.seq,q.1.toNat,?bO s3,T.n_isinstance,Eb.nd,λLz=>Lz _ _ ?tK,.of ?jS,(Gz Ad),Hr ps,?c (?u1),(?f Ag),(D:Addr),Al z,List,(?gT,Lat.one),s1.seq,[?a9,?dH,?fQ],(f+d),(?e0),?e5 V,.(by apply ?R3 ?q3),.(by exact ?jO),.(by rintro _ _ ⟨rfl,rfl⟩),SameX.of,?f D1,"blend",W.keepIn,(?P4 ?p),xs.getD,?y hp,"list",[?a9,?c7],?e (?pA),Ey.nd,rS nn,?b4 (λz=>?r2 (z▸hm) ?cB),(?VI ?r),(upd H2 R1 (?n (lu++ru))),for_list,2*?x3+1,Lat.Mat × Lat.Mat,T.na_Work_numbers,?e q.2,T.na_Stairs_starts,?U7 H,?F s1 hL,?y hD,λhnd o=>?_,(?h3),(?e0).take,iS n,(?x0),T.na_Work_table,"left",.(by let ?w5:=lx.ob),.(by by_cases z:c=b),?rD g2,(?VI ?V),cK ns,[?a9,"i","j",?gQ,?dQ],Ec.nd,as.map ?bY,λE hE=>?_,(?f Aj),(?OY ?aX),"law",?e (j:Int),hc.2.1,?TC ws,(?UN ?l),"backs",G=H',s1 _ _ ?xU,?f a,#[_,qa0 O9m],Di ws ?n9 (?uS m),T.na_Work_left,"numbers",(?f Af),ds.map,rS t2,"row",?cZ (SameX.refl _ _),hc.2.2,"lifts",Ed.nd,(?WY Ly),(Ca _ _ _),iS letters,(?h H H2),xs.length,[?X,"k"],(?P4 ?o),(Iv (?uL) c),rS tl,s.1 i,#[?E,?E],?cQ (by ext dK),(Ba ?W ?V ?p ?A),R2.same,[?a6,?bB],Do.nd,?T+1,(?p4),(?e0).map (Fk c),A / g,"one",Kp.of,Cv xs 0,Lat.one,"_law_family",[(pl,1)],c≠D,.(by let#[q,hq,rfl,rfl]:=Ma hx),?c ?rY,C3 xs k,"right",K.lookup,Nat->Int,spot+1,"_law_chain",?b0+?aP,(?fH),(.dK []),?eK i.toNat [],Rep.x,mainGlobals,(V7 xs ms i),(E:Addr),s.1 ?L (?hI),bo.1,(?n []),s.1 i (?hI),ws.map tI,t ?L,(?v3),s1 _ _ hb,?f ta,(Bh Cq ?o Ak),(?VI ?D),#[?f2,Ab,rfl,?k,rfl],?e q.1,Fu ws (?t0 j),[?cL],"papers",x.same,2 ^ 136,(?OY ?aF),(?iD),#[_,z,_],l4 _ ?cB,.(by ext iZ),"pieces",De ?LF,sB.trans,k H1 s1,(ws:?eB),"_law_script",(H1 D=?qH),rS tg,(w+n),(Ai Nv),(?WY Fx),"tuple",[?X,?bU],Cv xs k,P us,?cJ g1,T.na_Work_right,?e5 Int,?m hq,H' b,NO.trans s4,λm hm=>?_,(?kO hx).1,?y hE,?SO H,?f T1,rS N,?T7 ?rL,?cU s2,.(by apply(?PT p)),.(by subst z;rw[hb]at e;cases e;exact Ab),∀{α:Type}{P:?e5 α->Prop},a,.(by exact k H (?jZ H)),.(by have hi:=?nN),.(by rw[Al ?nG]),.(by simpa using h2),∀(us:?e5 α),a,LT.get,Bo qH,(?iP),Iz hv,"_law_number",#[r,b,lx,_],T.n_all,qa0 hi,(show spot<n by omega),"_law_word",(pv 12),(?h H H1),#[g,_],(?VG ?p),(?OZ Nq),(?U7 G1),(?fT),bs.map ?bY,λc q e=>?_,(?PV [o]),?c 1,(?VI ?gI),(Lc K Ag Af Aj),?OQ ?tK,?c 0,qi3.mp,[?a9,"i"],xa.2.1,(qh7 _ _),Aw ?kQ fam,s2.free,(top 58),(xs.length:Int),g.seq,Same.refl,"_law_holes",λe=>?K1,?S 0,(?g2),(?f Av),[none],?eK ?dT [],c≠b,#[[],rfl,rfl,?uT hD,?k,rfl],(top 63),?RB s1,?c (?e ((?d0:Nat):Int)),(pv 13),(?P6 L3 ?g),(?GU),Xp.of,[?X,?cL,"level"],xb.2.2,?f D,?e7 hq,Al n1,(?LW),T.na_Book_pieces,?U7 G,qa3.mp,.(by rfl),layer[j],Fg.mpr rfl,(λ_=>?_),?T2 i,Lat.turnL,p.2.2.2,"_law_cell",R.free,(Ii m f),?B rfl,rS fi,?TC (?W1 ?gO),C3 xs (k-1),#[rfl,?_],#[s1,_],"_law_words",Ct.nd,Fe.nd,.cons,(?gM),(?kO hq).1,(?X6 ?fD),ms.getD i (0,0),(pv 11),?y hT1,(?i2 g),Lx ps i,(Aa ?r ?hN),T5 ?P ?P,sL.seq,l8 ?_,R3.same,.(by let#[tva,kL,kH,hpa,l1a,l2a,l3a,l4a,zA,l6a,l7a,_]:=x.ob),.(by apply ?R3 (λz=>nomatch (show false=true from z))),∀(C8:Has P w K mg ?d ?m3 ?gK 2 (Jf K)),a,.(by rw[?BX]),.(by apply F7 ?B6;intro sq),.(by let#[No,I0]:=T.x_LEVELS),.(by revert σ;apply X0 ?_),.(by revert σ;apply cH ?_),.(by revert τ;apply Mm ?_),.(by exact λz=>?LE),.(by rintro i σ H2 hi C6),.(by have:=?iM),.(by rintro i σ G hi C6),.(by apply ?d3),"border_table",s1.free,(?rC)[m],"flipped",i+1+j,.of ht,[?i5],"lifts_of",ns.getD i (0,0),R2.same.free,s2.seq,[?cL,?mS],?OQ #[rfl,s1],.none,W.codeIn,[?X,"k",?cL],"_law_words_with",G c=?cV,λH2 s2=>?_,(by omega),PySem.W.plainGet,?f N,.(by simpa using h4),(?u0),layer,(by intro z;cases z),s05 _ _ Eu,"_law_number_by","many",?c (?hP),"_law_holes_are",(pv 10),wF (Au ?uA) c,R.same.trans,.func,.str "add",(?P6 Pg On),[?cL,?bB],λ_=>False,(?n [?e 0]),(?y YO).turn,"stepped",hin.2,σ'=[?q,none],(k0:Int),(?AR),xa.row,"_law_told_right",(?U7 H2),?wZ t i f s d,(Bd (K:=K) (Bd (K:=K) ?p)),[?X,"k",?cG,?b7],λz=>?_,sp.zip ns,(ce / 3),"gauge",[?a9,"k"],?b4 h0,id hL,(?kO hv).1,rS c3,(c':Int),nb a ha,Kq lf (ps.take j),qa2 _,s.1 j,T.na_Stairs_backs,"lines","_law_place","_law_cells",(cs.length:Int),(?HZ i j 1 l),iS kind,(as.length=i),T.na_Lines_backs,Al nD,PySem.W.makesIn,(?gZ).length,Sv d f l r,(?nD).1 i (t ?e9) / s.1 ?e9 (t ?e9),(?C [?hP,?eY]),"list_times","bases_of",W.nsIn,[?gQ,?dQ],["k",?vY],?q1 s4,"filling",(?c M),#[bs,xb,nb],(v:V),"ones",[?X,"k",?g1],T.m_Lines,.(by ext cY;exact D7),rS c1,(TI K H2 v w),?c 2,?c (?c (?E1 "object.__setattr__")),"check_level","plus",?TC zs,(w.length=i),R2.free,W.fnOf,(?h5),?b4 ?mJ,Al n2,?f b,?tZ L2.V,T.n_enumerate,(vN i j g a b f r),qb1 hq,"chain_of",(?f Hi),"turned",#[uX,UW],Cn ?gA (ls.take i),?C6 f k0 i,"lift_of","is_part",(w:Int),[?kW],.(by have:=r.length;ext aM),"__setattr__",?e5 Addr,((?hI:Nat):Int),"is_chain","is_table",λC hC=>?_,?c ?hF,"_law_border_by",[?e g,?e a,?e b],λa ha z=>?_,?T9 m,"is_chain_of_some_level",ns.map ?S,rP.same,?e p.1,?f ga,iS most,G8.nd,"parts_of","add_faces","_law_shape_by",s3.trans,"places_of_level",(by ext c2),((i:Nat):Int),PySem.W.hasDictIn,?b4 ?cB,.(by ext lX;ext aM),(?j8),"is_place_of_level",[?yX],(o:?bA),hin.1,Str.empty,(?OZ Np),(qj0 ?g7),Lat.blendR,?TC ys,R2.same.trans,(w:?iH),[?cL,?vY],(?l2).length,"loop","_law_found",MC ?_,?P6 ?nA hi,?SL h1,"border","diagonal","check_round",(ys=?fH),"product",R1.free,(c / 2),[?gQ,?dQ,?bB],"_law_chain_by",rS c2,(?k6).length,absurd,TI.same,"is_list_of_wholes","is_shape",?SO H0,R.push,qh9 _ ?P,λr' b' G2 sx n1 n2 z=>?_,(?P6 Cd ?l),g.free,Aw w fam,g1.trans,cK p.2.2.1,"_law_chain_is",#[T1,_,rfl,?bV,?H9],[?a9,?a6,?bB],upd G e (?OX ?gV),"is_whole_below",?ST m,(m:Int),#[_,_,?k,[],rfl,?y hp0,TI.mk (?bV),rfl],"piece","_law_total",k01.trans,q.2.1,Al Yp,¬N a,"fits",[?X,?cL,?vY],.(by rw[qb4];rfl),"_law_word_by",?cU sp,(?n us),a=q\/N a,"_law_plus",T.na_Work_width,s0.free,(j6 ms n ns i),#[z,e1,e2],T.n_tuple,yH.trans,?SL O9m,Ld.nd,T.na_Lines_rows,#[?E,?E,?E],FG ?LF,hc.ch,"first_misfit",PySem.W.plainOver,σ'=[?q,?dL,?cW],(?E3),((spot:Nat):Int),iS c',.(by rintro σ H2 C6;revert σ;apply Xz ?_;intro c' v o w s2 tv hwl Er;exact#[_,rfl,k v H2 w s2 tv (hW w hwl)]),.(by apply#[_,rfl,_,_,rfl,rfl,?gG,?bL,λp0 hp0=>?_];apply ?EO),∀(Bs:Has P w K mg ?d ?q2 ?gB 2 (Ef K)),a,.(by rintro i x ys τ H1 hx C6;revert τ;apply Mm ?_),.(by apply(?RO a #[_,hq])),.(by rw[As,?q6]),.(by apply F7 ?HT;intro sq),.(by rw[?c9,Ue];simp[h1]),.(by injection this with this),.(by replace hrep:=hrep _ rfl),.(by let ?yO:=lx.rw),.(by let#[uX,UW,sm3]:=x.sm),.(by rw[qa4,xa.1];exact hi),.(by rw[qa4,xb.1];exact hi),(?kO hy).1,(?KY,s.2),"order",rows.take,?cU s3,belowD (?bC) b,λD H1 hD s1 D7=>?_,?R3 (RY O9m),(t:?EA),.(by rw[Bu];omega),(c:Ms),[?a9,?yK,"i"],[?a9,?cL],?U7 H5,[none,?jL],j3 ?L i (?hD) (?hG) g a c s,s3.free,λH1 s1=>?d3,(?fH).set,qc9 ?mJ,H1 c=?cV,xb.there.2,(o7 o8:?bA),#[rfl,rfl],(?e0).length,sG.trans,?aJ (i<b),qa0 hmf,"faces",i<ns.length,.(by rw[Bu]),(K w.params).In,[?cI,?dO,?k0],[?cI,?dO,?nX],(x.same.trans s1).free,#[x',hx',tx],(b:Addr),?TC bu,Option,σ'=[?q,?bK,?T7 ?sH],?e ?aP,qd1 ?mJ,?F N6 hrep,qa5 (E3 _ _ _) Da,N1 ti Da Yu (hc.ch.key q hq),(n:Int),.(by split<;>omega),λc r n e=>?IJ,[?xL,?j5,?A2],q.2.2.1,F5 fam w,R1.same.free,sBG.trans,(as:?pH),lx.keep s1,?hG / ?hD,(o7:?bA),g3.trans,?eK j [],x4.tup,Cn ?gA ls,?B (?B (?B (?B (?dN)))),σ'=[?q,iS ?L,?bK,?T7 ?pI,?T7 (?hD),?T7 (?hG)],(gp:Int),λ(k:Nat)=>chainB xs ?T ms,Lat.Shares,qa5 (E3 ..) Da,(?jU).take,Rows.nil,(z▸R.free),[?D4,?nX,?JM],T.n_zip,?e5 (Str × V),W.isFn,.of et1,λc r n1 n2 e=>?_,?RI H [?mZ,?bC,?e ?L,?e (-kk)],List.range,?TS D,"Lines.turn",(us:?eB),upd H4 p (?QE E),[?a9,"i","j"],λt ht=>?_,?U2 H5 (?PA E),?Q7 ?tK,λD2 H2 Nd s2 h2=>?_,.of y.st,zD _ _ Eu,acc.map tI,H' p=?UD Aj fs,(bu:?eB),.of D7,?F g hL,(?gZ).getD,?cJ HX,U m M l r,"_law_due",g _ _ hp3,[?g4,?bU],g4 _ _ Eu,"bases","shrink_row",[?g1,?bB],h4 _ z,[?l5,?jA,?gU],(s:?eW),.(by rw[sQ];exact h3q),Str->?tZ Value,"bound",[?bU,?tP,?b7],Oo xs ?l9,(f+d:Nat),sH.trans,vJ _ _ _,"straighten",#[dx,fs,hp,l1,l2,l3,l4,l5],q.2.2.2,(?i0,?f P),(?jU).length,.ad i ?L (-kk),λT hT=>?_,[?X,?cL],.(by ext cY;exact Eu),?m ha,?RI G [?mZ,?bC,?e (?w1:Int),?e (-qq)],qa0 hjl,"meet","share",?b4 h1,?aJ (0<=i)&&?aJ (i<?jX),?m (?jY hb),na a ha,[?w7,?CY],?T9 c,?c (?pU),s1.turn hD,.(by cases z),#[z1,z2,z3],?RI H [?mZ,?u1,?fM,?e 1],x3.tup,[?cI,?h4],"_law_face",[?a6,?bB,?nV],[?a9,"i","first"],.of x.nu,Lat.shrS,?h H G,qa4 ..,(TA.of R hcl).same,(10:Int) ^ 40,"shrink",λT1 hT1=>?_,VE.same,Cv xs ?T,.(by simp at e),?Q7 ?CB,[?kW,?gU,?F9],(m:Ms),g1 _ _ et,#[tu,b,h1q,h2q,h3q],pb.r.ok.n,λw=>?yE,.(by rw[Ab];rfl),[?X,?vQ],"holes",[?a9,"k",?bU],"step","_law_one",?c ?d8,OR c r n1 n2 e,?cH h1,(Dh ((?nH).take i)).length,i<ms.length,upd (upd G1 EW (.own L')) L' (?N Ag EW []),(st:Int),?cQ ?q3,xb.2.1,.(by simpa using h3),T.na_Book_levels,(o5 o6 o7 o8 o9:?bA),[?X,"k",?hS,?z0,?yF],wG q hq,"Lines.blend",(z:Int),?vJ i 0,"put_in_order",XC.ok.n,Xp r b H1 G,R4.same,.(by rw[hfs];ext aL),[?nV,?c7],upd G p (?QJ nv),?mW / q.1,?bO sp,?y hT,qh5 ha,?GH λf=>?MK,"gauges",Cb ?q3,(hs.map (Fk c)).map ?S,?RI G3 [.str "minus",?e ?sH],[?cI,?dO,?k0,?h4,?vM,?qN],"spot",?T7 ?u6,?cH h0,#[i,hi,rfl],#[as,xa,na],[?cI,?dO,?GJ],?TC (?jI),"put_in",?eK (?lC).1.toNat [],(Rr:Addr),[?fX,?a6,?bB],qk1 _ ?P,Ii m ?HC,"size",?RI H3 [?mZ,?fM,?u1,?e ?GO],?TU G l,"loops",qg3 _ O9m,Mb xs ms i,s0.trans,"_law_k",?f la,.(by revert σ;apply Xz ?_;intro c' v o w s2 tv hwl Er;let ?KV:=tv.sq;apply ?LP;have s3:?RH pt (?C [?e (?BY)]):=?y hpt;apply ?FH;apply ?CC;apply(?UL [?BY]);rw[qb4];exact q3),.(by exact#[?FT,?gH,?F5,?CE,?rV,?r7 Nd s2 (by rw[hal];exact h2),_,rfl]),∀(Vg:Has P w K mg ?d ?oS ?oC 2 (Y1 K))(Pk:Has P w K mg ?d "times" [?b7,?bU] 1 (Uo K)),a,.(by apply ?OO (?VM [?j,?M,?H,?T7 (?lG),?b6] ?fR)),.(by apply#[t,_,rfl,?d9,rfl,_,_,rfl,_,_,rfl,_,_,rfl,_,_,rfl,rfl,?_]),.(by rintro ys τ H1 ⟨as,hal,rfl,R,_⟩;exact k D as H1 O9m R),∀(Cz:?PS P Af),a,.(by rw[qb0,?j8]at hx;rw[qa1,?j8];simpa using hx.symm),∀(Jm:Has P w K mg ?d "mixed" ["a",?gQ,"b",?dQ] 1 (Up K)),a,.(by apply(?RL ta hT1)),.(by rwa [show((?dT:Nat):Int)=q.1 by omega]at this),∀(D9:Has P w K mg ?d ?oR ?oD 3 (Ho K)),a,∀(Hh:Has P w K mg ?d ?MF [?qN] 1 (Oq K)),a,.(by let ?ID:=x.ob),.(by exact ?CO),∀(Gj:Has P w K mg ?d ?MO [?rN] 1 (F8 K)),a,∀(Gk:Has P w K mg ?d ?JV ?hR 1 (J0 K)),a,.(by rcases ho with⟨_,q⟩|⟨_,q⟩<;>cases q),.(by have nl:?tL<=ps.length:=qi0 _ _),.(by let#[r1,b1,r2,b2,lx,ly,f1,f2,f3,f4]:=x.li),.(by apply#[P,_,rfl,?m (.of hP),?_];rw[qa4]),.(by apply#[_,rfl,_,rfl,O9m,O9m,?bM]),.(by let#[ci,_,qH,_,OV]:=?qP),.(by apply(?S9 b ?bJ)),.(by rintro ys τ H1 ⟨s1,D7,rfl,_⟩),.(by apply ?c6 (λh4=>?_) (λh4=>?_)),.(by apply ?c6 ?I9 ?I9),.(by intro s1 D7 hz1 o Er;subst hz1),.(by rcases ha with rfl | rfl | rfl),.(by apply F7 λH2 fT=>?_;intro sq),.(by apply ?SK ?q3),.(by apply ?lK;intro o1 y Er),"_law_other",(Rr≠N),R.same.free,G5 c=?cR,(?KE).len,λc hc=>hb.1 c O9m,?SO H3,∀o,H c=?cR->G c=?cR,"Lines.__init__",Lat.insT,#[hi,b,rfl,hb],(E4 [0,2,3,4]).any,(Fk c q),(?qI s67),λG' z=>?_,"start_of",Lat.downS t i s d,[none,none],#[_,rfl,rfl],a=nm\/?CD,Lat.ChainTo,(GD K Av),[none,?jP],oZ _ _ hLr hLb h,ok.hd j O9m hj2,?V1 (layer.take j),?l8 ?bG (?l8 ?bG (?l8 ?bG (?l8 ?bG (.nil)))),(?eK pl.toNat []).length,.(by rw[qb0,?tO];rfl),sx2.same,#[WN,yO,LR],(Aq e hD),(G b=?xM),#[o2,o3,rfl,d,f,l,r,hd,hv,z],s02.trans,upd H4 nm ?hF,#[O9m,O9m,O9m,λc hc=>?lI],AO q.2 m,xb.there.1,.(by have:=pl 0;omega),λH1 s1=>?_,.(by have:=pb.r.ok.len;omega),Kp H3 H',(?I1).length,a=nm\/a=r2'\/a=vC,#[h2,h3],(?iJ=?wN),#[hi,rfl],g _ _ hpa,Ih ms fs n i,#[y1,y2],?c (?eO),upd H L (?n ?h6),(x2.same s3).there.1,m<fu.length,#[r,b,lx,f1,f2],(?bT=?pQ),λp=>Jc xs k p.1 p.2,.(by rw[i0];exact Bo hv),(ls:?e5 (?e5 Bc)),sB9.trans,λ_=>rfl,?bF p H H',hW.2 i v ps e1 e2,VI z (?C6 f k0),#[yN,YM],Aq hb hD,.(show((k+1:Nat):Int)=?gM by omega),c'%letters,.(by have:=dr.ch.ok.len;omega),λc hc=>?_,λx hx=>?_,#[_,rfl,?E,?E,?_],E4 (?uJ),V4.of9 O9m h3,#[m,s+1,_,_,_,rfl,g,Eu,hm,O9m,bm],Lat.numAt,E4 (?k6),[?j,?z,?H,o1,o2,o3],ns.length,Pi i _ hx,#[_,rfl,rfl,?_],#[_,rfl,_,rfl,_,_,rfl,rfl,#[hb0,hb1],?_],a=O3\/a=O4,.(by simp[hal]),(?cN:Int).toNat,?dB (z-k0) (?k2),hB.2 i v ps hv hps,rP9.same,?dB us.length true,iG ns (?c 4) (?c 34),st _ _ (s2 _ _ (?cS _ _ e)),(?y ndl).turn,fc∈acc,λD hD=>?OQ #[D,rfl,hD,?f2,Ab],(o1 o2 o3 o4 o5 o6 o7:?bA),gp _ _ Eu,"_law_j",(I ?L s),us++[?f t],nU _ _ hb9,(?T4 t1),(?DI).length,"levels",(?CX,?f Lv),layer++rows,λhS G1 s1=>?d3,(?bT=?pM),OR c r z n e,λT G4 nT s4 hT=>?_,"_law_kind",?JR w M P,x.keep s1,λD2 H2 n2 s2 e2=>kq D2 H2 (sG.free n2) (?tM s2) e2,((0:Nat):Int),[?j,?z,?H,o1,o2,o3,o4,o5,o6,o7],o3' g' a b sh,m5 _ ?cB,g2 _ _ kD,"_law_without_noughts",(ms ds:?iH),?R3 ?cB,NU.free hnm,?TQ H',?eK (?h5).toNat [],hk1 c r n1 n2 e,Int.dvd_of_emod_eq_zero,?TS D2,?dB (VI n f).length true,(?S9 b ?fE),"Work.step",[?j,?M,?aA,?z,?aO,?b6,rS E,o7],?h HL H1,"Book.holes",#[_,rfl,_,_,rfl,rfl,?_],#[?kP,?kP,?kP,?kP],?c6 (λh2=>?_) (λh2=>?_),sL.seqT hT,l6 _ ?cB,(?rL-(?aP+1)).toNat,?K ?a6 (?bY E) fs,#[hW.1,λi v ps e1 e2=>?_],l6c _ ?cB,.builtin,(?S8 hq Pi),λa=>a=nm,"Work.put_in_order",(BZ K Av),dd.2 _ v hv,?pI<=?xS,.ad i ?e9 (-qq),?aJ (?S fam=?k2)=true,Nat->Nat,Lat.blend_row_ne,?U7 G3,(z.symm▸y.mq),"Work.__init__",Lr.mp hnd,?bF p H3 H',(3:Int).toNat,s6.trans,(?fV).length,H4 a=?cR,base.Ns ?hA mg,(?bT=?fO),(o4:?bA),#[_,rfl,_,rfl,O9m,O9m,?_],.(by rw[qa1,hq];rfl),(qb1 hq2),[?j,rS af,?f6,o1,o2],Pe ws fam 4 [w] [],#[ta,vs,rfl,hT,rT],"numbers_at",TA.of R1 hl1,[?q,?Q,?z,?iQ,rS Rr,o5,o6,o7,o8,o9],λG2 g2=>?d3,#[v,h,w,f,rfl,hv,hh,hw,k],upd (upd H2 vB (.own p)) p (?N Af vB []),[?e g,?e a,?e c],(o2 o3:?p1),"Work.share",(VI m f).set i (?e g),#[m,s,_,_,_,rfl,g,Eu,hm,O9m,bm],as++[D2],(z.same VP).there.1,"Stairs.put_in",Sc Eu O9m,"_law_letters",?P6 xb.row hi,Cls K C/\Dy K C ?dH/\Dy K C ?fQ,b*f j / g,#[pr,pb],?Q4 B (?n (?jI)),#[h1,h2,h3],.(by rw[qc6,hcl];rfl),#[a,pt,_,_,rfl,rfl,s3.seqT Yt,?bV,?yG,λp3 H3 s4 q3=>?_],#[y',hy',ty],?Q6 D7,(2:Nat) ^ 136=87112285931760246646623899502532662132736,#[cs,_,ecs,_,hcs],.(by have:=rM.length;ext aM),(?nQ).2.2,upd G1 D2 (?OX m),g2.trans,"faces_agree",Lat.moveS i ?L s,Vm (?B #[o,V6]) hat,?Q6 R.at,#[_,b,rfl,hb],(e▸ha),"one_row",?PN G' s',#[?k,rfl,x],?oW ?fL ?fL (Jx U0) (Ht U0) (Ar U0) ?mD ZA zF yL ZH UE ZF,#[q,hq,pv],(gE K Av),xs.take i,?m (?HM),[?j,?f6,?z,?H,o4],g1 _ _ Eu,x4.right,Heap->Prop,.ad j i ?GO,(?IK:Int),g1 _ _ hRG,#[E,eu,rfl,hE,rE],"add_at",Mr.binds (ps:=?eN) ?R,?SC UX.free,?RX D7,HX _ _ Eu,(?rC).map,.of xp.2.1,"_law_thing",[?j,?z,rS E,o3,o4],?SO G1,upd G E ?h7,qa5 ?g7 ?qF,(-(?FC)),?Q4 C ?rY,(?UE o11),?y (o:=?OX ?uA) h2,#[tvc,dxc,fsc,hpc,l1c,l2c,l3c,l4c,l5c,l6c,l7c,_],Od (ws:=ws) (fam:=fam) (layer.take j) [] (λu hu=>hWl u (ql6 hu)),s1 _ _ e,T.na_Book_lifts,?dB (?yH).length true,upd G p (?C [?bC,v]),"Work.straighten",(?e ?pD),y8 xs (?C ds),z.there.1,λg' a b G' sh z'=>?_,p.2.2.1.take,(?rP k19),"is_list_of_few",?Q6 hD,(z▸z1),upd H5 p (?SS Lf),#[_,_,rfl,rfl,_,_,rfl,rfl,_,_,rfl,rfl,_,_,rfl,rfl,rfl],?F ?cS hv,s47 _ _ x.nu,λk=>if k=i then g else f k,h.Ns ?hA mg,?r3 s3 tx,Sz Mr T Ve Y8,λi=>r.1 (k0+i),"Book.__init__",.ad i j 1,(?c ?pD),(Fr ?aW),x.fr.2.2.2,.of x.st,?h G3 G4,(z▸y.mq),(LW JQ o14 o15:?bA),?oB K ?hA s,(R2:Addr),(P:Addr),λG1 g1=>?_,upd G' p (?C [?bC,?eO]),(o3 o4:?bA),(ws.take i).map,ms.length,tI xs[i],Lat.addS,#[ws,_,_,_,_,_,_,rfl,g,Eu,dd,EE],?K ?dH (?bY D1) fs,.(by rw[qi6]<;>rfl),.(by rw[Iu]),upd G1 c (?RD ?c),λG4 fs hfs hG4=>?l3,sp.trans,(?iF).turn,λc q n1 n2 e=>?LV,(λe=>?_),npn.symm,((f:Nat):Int),?o5<=1000,#[tv,dx,fs,hp,l1,l2,l3,l4,l5,l6,l7,hrep],#[bu5,_,rfl,s5,ZC,?_,tK],(Gz ?dM),(?DY).length,fs.map ?S,((d:Nat):Int),.(by rw[Al n];exact e),(us.length:Nat),λj hj1 hj2=>?_,(?jU)[m],.(by simp[hwl]),#[us,hq,Ys],E4 (?DI),?tF i (?eG),(?pT g).2 i v p hv hp,#[rfl,λi v ps e=>?x8],?Q4 l1 ?n3,#[_,_,_,_,_,_,_,_,_,g,_],(?q1 VP),yH.seq hSB,?OQ #[rfl,λa ha=>by rw[Al ha,Al ha],Ab],∀w:?iH,w.length=(?cN).toNat->?uB,.(by rw[qb0,?wF];rfl),#[E,eu,qs,e1,e2,hE,rE],V7 xs ms ?HX,?P6 x.row hi,?SO H1,?PW xs.length,.of (?BE),"_law_faces_by",Fv K mg Ag Af Aj Av,N6.seq hq,#[_,rfl,ta,_,_,_,rfl,rfl,hT1,rfl,?_],m4 _ ?cB,(?nQ).2.1,"across",Jz.binds (ps:=?e8) ?a2,K3.binds (ps:=?fF) (?PM tV (λ_ _ _ _ _=>rfl)),.(show((k.toNat:Nat):Int)=k by omega),.(by rw[?rR];exact D7),#[_,_,rfl,rfl,_,_,rfl,rfl,rfl],λe=>eqD e (?e (ds.length:Int)),Em ms (ns.take i),?OQ #[rfl,?iS],?b2 sa rL,"_law_most",NU.trans,λtp htp=>?_,(z▸R2.free),yI _ _ HQ,Lat.beside,(?uJ).length,LT K G ?jH xs,wG q hqm,"is_whole",.(by let#[_,_,_,e,_]:=hz;exact e),upd H11 N2 (?n (?W1 ?gO)),De ?JS=i,g.natAbs<L9,upd H b ?d8,D5 xs e (?i1-1),pN ns (?c 4) (?c 34),?F g1 kD,s11.trans,(?v2 i).map,?K ?f9 (?bY L') (?DY),#[o1,o2',o3'],[?j,?M,?b3,?b8,?b5,?d5,?dP,?eQ,?gE,?i7,?l0,?H,LW,JQ,o14,o15],F5 fam u,(spot<=i),Ii m (shF i j g f),(o11 LW JQ:?bA),(z.same sn).there.1,bk.lev _ _ hps,∀a,?iO->?rS,?TS M,?RB ?cS,(?K6).length,l6a _ ?cB,na a (ma a ha),"is_straight","without_borders",?cQ (?t6),[?q,o1],#[pa,pu,rfl,hpa,rP],Al Yp.symm,Q0 K3 T Hs Jm,?RB sB,"_law_more",λF hF=>?_,#[a,rfl,Yt],#[st,lx],(z▸Nd),λx a=>s.1 x (w+a),qg3 _ (Int.le_of_lt h2),?TS B,(if ?pD<?G9 then ?pD else ?G9).toNat,#[_,_,q,_],λP H2 nP s2 hP=>?_,(?rC).length,?h H0 H4,λkey=>?jO,nb a (mb a ha),"shared_divisor",dd.keep λc kvs e0 e=>?_,?Q4 D ?h7,(Aq (?H6) R3.free).symm,(?S8 hq _),[?kI,?f L'],.(nomatch z),ds.length,IntMulOk,#[?k,?k,rfl,Ab,?_,?_],λB hB=>?_,#[cs,_,_,R,_],upd G1 t (?QJ nv),"_law_cell_at","Stairs.shrink",lx.nn a ha e,(Y6 ?p),#[_,rfl,_,rfl,_,rfl,_,_,rfl,rfl,hb0,?bQ,λpt hpt=>?_],sp.getD i 0,#[dv,tM,rv],λb=>Fk c b*Au b.2.1 q,[?j,?M,?z,o3],?o6/\?yZ,.(by rw[?kK];exact e),?Q4 p (?N C dx (?K ?dH (?eG) fs)),?SO H2,(top 55),?c6 ?kS ?kS,"Stairs.meet",(?VB hD),"Stairs.shrink_row",(?wJ)=true,V2 xs ?T q,(?jI).set i (?f D3),(?TD none none),#[a,us,rfl,hq,Ys,Pi],ok d O9m,#[hz,O9m],"column","Book.told",?H0=false,λtM=>?_,Di ws ?n9 (?uS (m+1)),"_law_whole",Rn ws w fam,"_law_level",Jc xs k p n,"Stairs.__init__",(EO ws f:Int),sC.trans,rE.get hv,#[_,rfl,L,_,_,_,rfl,rfl,hL,rfl,?_],"level_of",.(by apply ?PY [?j,?M,?z,?H,?c (?e ((s+1:Nat):Int)),?cO,iS ce,?f6];rotate_left),.(by let#[r',b',ly,_]:=y.ex;let#[vB,fs',xC,_,_,_,l4',_]:=ly.ob;apply#[_,rfl,p,vB,fs',rfl,xC,l4' _ ?cB,_,rfl,_,rfl,_,_,rfl,rfl,?_]),.(by apply ?OO (λσ' H'=>?VL none/\?f0)),.(by apply#[sF _ _ R.at,?gH,cs++[F],?rV,?FG,?_,_,rfl];apply ?r7 hF sF ?_),.(by rw[hfs,As,?eR,As,?eR];rfl),.(by rintro i x zs τ G1 hx ⟨cs,rfl,hcl,R,o1,rfl⟩;have hi:i<n:=by ext lX;rw[qa4,xa.1]at this;exact this),.(by let#[f1,f2]:=fin i D H1 hi hD s1 (by rw[D7];congr 2;exact Rk λc _=>by simp[VG]) λr hr=>by funext c;simp[VG,hr]),.(by revert σ;apply sX ?_;intro L R lu ru layer rows o5 o6 o7 o8 o9 sH hL rL hR rR hWl hlay hll hrl Er),.(by apply#[_,rfl,_,_,rfl,rfl,(?PC 3),rfl,_,rfl,?_];apply ?LZ),.(by apply ?OO (?U6 ?f0)),.(by have pbs:=c6 ti Da Yu hps;have wG:∀q∈?e0,?M4:=λq hq=>pbs q (qg5.mp hq).1),.(by apply ?OO (?U6 ?aZ)),.(by exact#[_,rfl,_,rfl,L,_,_,i,rfl,rfl,f1,Kx (by rw[qa4,x.1];exact hi),#[_,rfl,f2]]),∀(Fp:Has P w K mg ?d ?rF ?yP 2 (Qf K)),a,.(by let ?w5:=x.ob;let ?yO:=x.rw;let ?oH:=x.bk),∀(Po:Has P w K mg ?d ?s0 ?u9 2 (Zq K)),a,.(by have rul:ru.length=rows.length:=by have:=rR.length;ext aM),∀(Df:Has P w K mg ?d ?q9 ?kG 3 (F9 K)),a,∀(Cj:K0 P w K mg ?d Af ?vR ?wX 4 (?OZ Lb)),a,∀(Gm:Has P w K mg ?d ?pN ?wU 2 (Op K)),a,∀(Id:Has P w K mg ?d ?J6 [?jA,?gU] 1 (Mt K)),a,.(by revert σ;apply YV ?_;intro W wu ws o5 o6 s2 hW hW2 rW hO hwl Er),.(by rw[As,?q6,As,?q6]),.(by rw[hfs];exact qa5 ?g7 (?RJ ?qF)),.(by apply YU ?_;intro b c ms ds o7 o8 nbd nBb g V6 hdG dr dl dd Er),.(by apply(?R1 3)),∀(Dg:Has P w K mg ?d ?DD [?rO] 1 (Qe K)),a,∀(R9:Has P w K mg ?d ?GC [?bU,?cG,?b7] 1 (Rs K)),a,∀(Ex:Has P w K mg ?d ?rJ ?qK 2 (Ij K)),a,∀(L4:?SY P),a,.(by let ?yN:=?yD;let ?wR:=R.row i _ ?q8),.(by let ?GS:=z.ob),∀(L5:Has P w K mg ?d ?qV ?qY 3 (Tg K)),a,.(by exact#[?bL,λD hD=>?OQ #[D,rfl,?f2,hD,Ab]]),.(by let#[c,_,ec,_,hc]:=?qP;rw[ec]at hx;cases hx),.(by rw[As,?eR]),∀(K7:Has P w K mg ?d ?pJ ?mF 5 (Qc K)),a,.(by apply YT ?_;intro ws o1 o2 o3 o4 o5 o6 o7 g Eu dd EE Er),.(by apply yV ?_;intro Rr o5 o6 o7 o8 o9 nRr tO g hNG hRG Er),.(by revert σ;apply YW ?_;intro us LW JQ o14 o15 g Eu rU Er),.(by revert σ;apply mC ?_;intro ws o6 o7 hc2 HQ dd EE hk Er),.(by rintro zs τ G1 ⟨cs,rfl,hcl,R,_⟩;rw[qa4,xa.1]at hcl),.(by exact#[?O,?bZ,?nU]),.(by apply(?RL t ?d9)),.(by obtain⟨ps,hps⟩:∃ps,ls[i]?=?c ps:=?fU),.(by apply yU ?_;intro ws o2 o3 o4 o5 o6 o7 g Eu dd EE Er),∀(N9:Has P w K mg ?d ?MH ["_law_piece"] 1 (F8 K)),a,.(by exact#[?d6,?s9,?o2]),.(by rcases J7 (l:=xs) (i:=?dT) (d:=[]) with z | z),∀(R8:Has P w K mg ?d ?qR ?iC 7 (Wg K)),a,.(by apply(?PT pp)),.(by apply(?PT pr)),.(by have nN:?KF:=?SU x.nn),.(by rw[qj4 (by ext sV),qa4,xa.1];omega),.(by rw[qj4 (by ext sW),qa4,xb.1];omega),.(by let#[z_,L_,G_,zs,ks,Ls,Gs,fs,lp,rp,ti,_]:=bk.tie),.(by exact λk k1 k2=>?EB k1 k2 _ _ _ _),.(by let ?LJ:=hz;exact ?dS (.of xa')),.(by exact sx1 b _ (Fo e hp ?mP) e),.(by have:¬c=i:=λe=>z e.symm;simp[Lat.one,z,this]),.(by rintro i ys τ H1 hi ⟨as,hal,rfl,R,o,rfl⟩),.(by apply mC ?_;intro E o3 o4 nE hE0 V6 QF hk Er),.(by exact ?cZ ?k3),.(by rw[?e4];exact OR c q z ?AX ?kE),.(by apply ?R3 (by ext sQ)),.(by apply ?SK (by ext sQ)),.(by apply#[_,rfl,la,lu,rfl,?m hlq,?_];rw[Ah9]),.(by first | exact Or.inl rfl | exact Or.inr rfl),.(by have Yp:b≠D:=?BW;have hb1:=?hK),.(by have cb:∀z:Int,V4 z g:=λz=>V4.of9 O9m lg),∀(S5:Has P w K mg ?d ?oJ ?qA 2 (dO K)),a,@(qy1 ?a ?i ?_),@(Aa ?a (Aa ?b Ad)),@(key _ _ ?a),@(Bv P w K mg ?d Eo 2 f fd ?a (?b K)),@(Dm (K:=K) (n:=2) ?g (Bl ?a (Bl ?b Dl))),@(Ap (i:=?a) ?b),@(.of (?a _ _ ?b)),@(Bv P w K mg ?d Eo 3 f fd ?a ?b),@(Br (G6 (K:=K) qd7 qg1 qg0 Fi ?a (Aa ?b Ad))),@(.dK (cK ?a)),@(Az ?aT ?aN qg2 ?a),@(?a K Ag Af Aj),@(Bf ?a ?b Ak ?s),@(Ew (λσ' H'=>σ'=?a/\?aZ) ?_ ?dX),@(λi σ H2=>Tb λ ?nP ?oI ?qB ?qJ=>By (σ=[?sI,?bX,?g8,?c ?a,?g8,?bE,o]) ?g9 ?oO ?oU),@(λ_ _ _ _=>(An ?a hr ?b)),@(Ba ?aU ?a Ak ?A),@(uu ?a (λF=>?b F T) ?aG),@(?a (K:=K) ?b),@(?m #[rfl,_,.of ?a]),@(Ao (i:=3) ?a ?b),@(λF=>?a F T ?b),@(?K ?f9 (?f L') (?K ?a6 (?f ?a) fs)),@(?u ?a ?t),@(by show ?b0<?a;decide),@(σ'=[?j,?aE,?Q,?q,?aA,?z,?aO,o7,?a,?b6,?g0,?cO,rS E,rS t3]),@(uu ?a (λF=>?b F T) ?R),@(Bx (Dc (C5 (An ?a hr ?b))) ?i9 Bj),@(Ao (i:=4) ?a ?b),@(Ao (i:=2) ?a ?b),@(λi σ G _ hz=>by let ?a:=hz;exact e),@(Cf ?g ?aV (Aa ?a Ad)),@(λσ' H'=>Ea λ(fam:Int)=>Ev (σ'=[?o0,?a,?pW,?bX,none,none,none]) (?aZ) (fam<100)),@(λi zs τ G1=>Ea λcs=>By (zs=cs.map ?bY) (cs.length=i) ?a (Ea λo1=>τ=[o1,?cW])),@(λ_ _ _ _ _ _=>?a ?b),@(SX Af H0 ?a p q M n W t i ?b),@(σ'=[?q,?Q,?z,?iQ,rS ?a,?mT,?oN,?r0,?nO,?c ?b]),@(Bh G0 (Bh Eg (Bh Kw ?a Ak) (Bh Cq (Bh Jt Ak (Bh DW Ak Ak)) Ak)) (Bh DW Ak Ak)),@(?a4 K ?a ?b=?bI),@(K0 ?a w K mg ?d ?b ?eH ?fF 2 ?jF),@(K0 ?a w K mg ?d ?b ?c7 ?eN 3 ?jN),@(#[?a,_,rfl,?bV,rfl,_,_,rfl,_,_,rfl,rfl,?_]),@(?a K ?b=true),@(Ea λo=>τ=?a),@(us.length=?a),@(?C [?eO,?f lp,?f gp,?f ?a]),@(Am (λσ' H'=>Ea λ ?u6=>Ev (σ'=?a) (?fR) (n.natAbs<?hU)) ?_ ?b1),@(Cs (K:=K) (a:=r) (xs:=?fH) ?a ?b (λi zs τ G1 _ hz=>by ext OA) ?_ ?_),@(qc1 (Nat.le_of_dvd (Int.natAbs_pos.mpr O9m) (qv3.mpr sh.dA)) ?a),@(Cw K ?a ?b),@(qi7 X G ?a),@(?m (?a _ _ ?b)),@(upd H1 ?a ?b),@(#[_,rfl,p,Aj,dx,?a,rfl,R7,?J,?b,O9m,?_]),@(s2 _ _ ?a),@(Et _ _ ?a),@(#[_,rfl,_,rfl,tI fc,?vE,?a,?m ?b,(by have:=Rf acc;omega),_,rfl,?_]),@(mkL (N:=?n2) hl1 R1 hl2 R2 ?a sN hfs hG4 (λ_ z=>z.elim)),@(Rep K (?a) ?j3 (VB ?b)),@(Bv P w K mg ?d Eo 4 f fd ?a (?b K)),@(λi j=>if j=i then 1 else ?a),@(?c (?f ?a)),@(?N Aj dx (?K ?a6 (?f ?a) fs)),@(show j≠?a by omega),@(De (?a (?h8)).length),@((?a).trans ?b),@(SX Af H0 ?a p q M n W t cnt ?b),@(?C [?e sv,?e ?a]),@(#[_,rfl,t,_,_,_,rfl,rfl,?d9,rfl,?a,?b,rfl,rfl,_,rfl,?_]),@(λi j c hi hj hc=>IK (?a i j hi hj) (?b j c hj hc)),@(?h G2 (upd (upd G2 dl (.own ?a)) ?b (?N Ag dl []))),@(λi ys τ H1 ?a hz=>by let ?l4:=hz;exact ?kJ),@(λfr hc o e=>fr _ _ (?a _ hc).1 (?b _ hc).2.1 ?kE),@(ys=(?dB ?a true).map V.bl),@(?B #[b,?a,?b,?f3]),@(#[?a,rfl,?E,?E,?E]),@(s3 _ _ ?a),@(qv5 X G ?a),@(?h ?a (upd ?b C (?n (Kb (?pS) (?c 4) (?c 34))))),@(?K ?dH (?eG) ?a),@(.frz o (.dK ?a)),@(#[_,rfl,?a,rfl,?b,?_]),@(σ'=[?j,?M,?z,?H,?c ?a,?cO,iS ce,o7]/\?fR),@(upd H5 ?a (?N Aj dx (?K ?fX (?f nm) fs4))),@(upd (upd G3 EW (.own L)) ?a (?N Ag EW [])),@(#[_,rfl,_,_,rfl,rfl,(?E:?b0<?a),rfl,_,rfl,?_]),@(show(?a).length=?b from ?x1),@(Hg ?a ?_),@(Ao (i:=0) ?cX (Bh ?a ?l ?b)),@(?c (?n (VI ?a ?b))),@(#[p,_,rfl,.of ?a,rfl,_,_,rfl,_,_,rfl,rfl,?_]),@(?a (E4 (hs.map (Fk c)))),@(λk hk=>#[mk ?a bo.2 hi hk,mk ?b bo.2 hj hk]),@(Ko λo1 o2=>τ=?a),@(?mK K ?a ?qD=true),@(?a _ _ hp),@(λi ys τ H1 _ hz=>by let ?a:=hz;exact ?b hq),@(?n (Kb us ?k (?a ?aP))),@(#[_,rfl,_,rfl,_,_,rfl,rfl,?a,rfl,_,rfl,?_]),@(#[_,rfl,?a,_,rfl,?b,_,rfl,?_]),@(λk hk=>#[mk ?a ?hE hi hk,mk ?b ?hE hj hk]),@(?h H2 (upd H2 ?a ?b)),@(upd ?a T1 (?C ?b)),@(qa5 ?a ?P),@(?a4 K ?a ?pG=?oQ),@(#[_,rfl,?a,_,_,_,rfl,rfl,?b,rfl,rfl,_,rfl,?_]),@(Bf ?a ?gI (An N7 hr (Aa ?c3 Ad)) ?s),@(#[_,rfl,_,rfl,_,rfl,c,_,rfl,?dS ?a,?KU]),@(#[_,rfl,?a,rfl,?b,?bM]),@(∀{G:Hp}{c:Addr},?y5->c∈?a->?A9),@(λc hc=>Lu ?a ?b ?P),@(upd G1 F (?n (Kb (VI ?i8 (?gF)) ?a ?b))),@(nN9 K ?a),@(Lu ?a ?b (by unfold pZ AF bookF;decide)),@(Br (Ny ?a ?J ?b hr)),@(#[P,us,rfl,.of ?a,?b2 ?b r]),@(?a (K:=K) ?g ?p2 ?b),@(sp _ _ ?a),@(Lo (An Jm hr (Aa ?a ?b)) (Lq ?V ?p Ga)),@(Lo (An Jm hr (Aa ?a ?b)) (Lq ?V ?o Ga)),@(Bv ?a w K mg ?d Eo 14 ?b fd ?m6 (Y2 K)),@(Bh G0 (Bh Eg (Bh Kw ?a Ak) Ak) Ak),@((?wJ&&?aJ (De (?h8).length=l))=?a),@(#[_,rfl,t,_,rfl,?B (?a),rfl,_,rfl,?_]),@(λx hx=>(wG x ?a).f),@(lookI ?a q.1=?c q.2),@(by show(?a:Nat)<=sizeLine;decide),@(?oB K ?hA ?a=?c (?c ?b)),@(#[ta,us,rfl,?a,Ys,?b]),@(#[_,rfl,?a,o,?b,rfl,Ab,?_]),@(#[_,rfl,?a,_,rfl,?b,_,_,rfl,rfl,_,rfl,?_]),@(λi σ G _ hz=>by let ?a:=hz;exact ?b),@(λa e=>?a e),@(Bv P w K mg ?d Eo ?a f fd ?iC (?b K)),@(.of (kb ?a mdj _ (?kH _ _ rdj))),@(.of (kb ?a mdi _ (?kH _ _ rdi))),@((?a).map tI),@(#[_,(Ai (Bb (M5 (An ?a hr ?aX) ?b))),?_]),@(vs d i ?a f l r hv O9m O9m O9m),@(upd H L0 (?n [?a])),@(eO ?a ?_),@(Bo (Co ?a)),@(#[a,b,xs,ms,rfl,hL,hb,hm,h4,?a,kq]),@(#[_,rfl,p,Av,dx,_,rfl,?a,?bP,?b,?c1,?_]),@(?a a=none),@(Bv P w K mg ?d Eo 6 f fd ?a (?b K)),@(Bv P w K mg ?d Eo 5 f fd ?a (?b K)),@(Bv P w K mg ?d Eo 1 f fd ?a (?b K)),@(?N Av dx (?K ?g4 (?f ?a) ?wM)),@((?H3 ?a).foldl (lift1 ?kV) lg),@(λa e z=>?a a z e),@(show(?a).all id=true by simp),@(qk1 ?a (b:=?b) ?P),@(qh9 ?a (b:=?b) ?P),@(iU ?a w K mg ?d Ag ?e8 1 ?qE),@(fX _ _ ?a (s5 _ _ ?b)),@(Bf ?a (An N9 hr (Aa ?b Ad)) ?o ?s),@(?v ?a ?cA (Ar ?b)),@(?e (fs.getD ?a 0)),@(#[_,rfl,b,?a,rfl,?m hb,_,rfl,?_]),@(#[?a,c1,c2,c3,rfl,_,et,e1,e2,e3]),@(λ_ _ _ _=>(?OT 0 ?a)),@(An ?a hr ?b),@(?c (?e ?a)),@(σ'=[?j,?aE,?Q,?a,?b,none,none,none,none,none,none,none,none,none]),@(?c (.dK (cK ?a))),@(Az ?a ?dV Bt (?OP ?b (Fz (v:=.ty ?eM) rfl ?dG Ei rfl))),@(σ'=[?j,?M,?b3,?b8,?b5,?d5,?dP,?a,?b,none,none,none,none,none,none,none]),@(?c (?n ?a)),@([?j,?aE,?Q,?q,?aA,?z,?aO,o7,o8,?a,?b,none,none,none]),@(σ'=[?j,?M,?b3,?b8,?b5,?d5,?dP,?eQ,?gE,?i7,?a,?b,none,none,none,none]),@(λ_ _ _ _=>(?OS (Ap (i:=0) ?a) (Ap (i:=1) ?b))),@(Dc (C5 (Az ?a ?dV Bt (?OP ?b (Fz (v:=.ty ?iB) rfl ?s5 Ig rfl))))),@(Br (G6 (K:=K) qd7 qs9 qs8 Wy ?V (?OP ?p (?a (K:=K) qd7 PySem.F.slot_list_pop PySem.F.type_list_pop HA ?V ?a0)))),@(Ai (Br (C7 ?l ?O ?a hr ?b))),@(?c (?OX ?a)),@(by let ?a:=hz;exact ?OU g ?b),@(Bv P w K mg ?d Eo ?a f fd ?cA (?OZ ?b)),@(Ap (i:=?a) ?b),@(Bx (?P0 Fb ?a) (Ai ?b) Bj),@(Cg Gf ?g ?cP Dx ?a),@(Bx (Dc (C5 (Az X7 ?dV Bt (?OP ?p (?a (v:=.ty "dict") rfl ?cP Dx rfl))))) ?a5 Bj),@(WX K Ag Aj H0 ?a p L R nm n w ?oG l r []),@(?aH (Qs ?a (Mj ?b))),@(H ?a=none),@(Cg ?iA ?g ?dG Ei ?a),@(WX K Ag Aj H0 ?a p L R nm n w ?k ?b r ?kY),@(LX ?a Ag L O1 O2 ?k n n ?e6 ?b),@(σ'=[?dL,?cW,?a,none,none]),@((?gR ?a).trans ?c8),@(#[_,rfl,?a,us,rfl,?m ?b,_,rfl,O9m,O9m,?_]),@(σ'=[?j,?H,?a,?b,none,none,none,none]),@(?a xs ?b z k0 L G f l r),@(σ'=[?j,?H,?b8,?b5,?Q,?kB,?a,o7]),@(upd ?a p (?N Aj dx ?b)),@(λj i=>Ry (?eK (?vJ j 0).toNat []) ((?l2).getD i ?a)),@(Ao (i:=?a) ?gL ?b),@(σ'=[?dL,?cW,?bD,?q,?a,none]),@(λσ' H'=>σ'=[?j,?M,?aA,?z,?aO,?b6,none,none]/\?a),@(?h ?a H'),@(uu ?a ?b ?a2),@(Cf ?g ?aV ?a),@(LX H' Ag ?a r1' ZG ?k n n ?b (λa=>a=nm\/a=r2\/a=b2)),@(Dm (K:=K) (n:=4) ?g (Bl ?a ?b)),@(Bv P w K mg ?d Eo 4 f fd ?a ?b),@(?c (?N ?a dx ?b)),@([?j,?aE,?Q,?q,?aA,?z,?aO,o7,o8,?b6,?g0,?a,LW,JQ]),@(WX K Ag Aj H0 H' p L R nm n w ?k ?a ?p3 ?kY),@(Ta K H' tp nm r1 D1 D2 b2 z (?d0) k0 ?a l r),@(H9 ?a=?R5 n (?qG s.2 i j ?d7 (-?c5) (-c) a ?b)),@(σ'=[?q,?iR,o2,?a,?b]),@(λj σ H3 _ hz=>by let ?a:=hz;exact ?OU s3 ?b),@(?m (?OU ?a ?b)),@(#[_,_,_,w++?a,rfl,?QH ?dU s4,TI.mk ?_,?IN]),@(C7 ?V ?d6 Kz hr (Aa (Es (Aa O9 ?a)) Ad)),@(Ba ?W ?a ?r ?A),@(λi ys τ H1=>By ?jC ?i6 (?QP i) ?a),@(H9 ?a=?R5 W (?qG s.1 i j a c ?c5 ?d7 ?b)),@(λa o e=>sx _ _ (Aq e ?a) (?QS e)),@(uu ?a ?b ?R),@(Rep K H' (?f ?a) ?b),@(Rep K H' (?a) (dT (?gS) (?gS) ?gT)),@(?h H1 (?Q4 ?a (?C ?b))),@(s6 _ _ ?a),@(SX Af H ?a p q (λa=>?rZ) n ?i8 t ?b s),@(Am5 ?a w K mg ?d Ag ?cK ?e8 1 ?qE),@((?cJ ?a).turn ?b),@(uu ?a ?b (?PM ZE (λ_ _ _ _=>rfl))),@(σ'=[?q,?j,?a]),@(below ws fam [] ?a),@(SqT K ?a P ?pO),@(LX H' Ag R r2 b2 ?k w w ?a ?sG),@(?cZ (?eF ?a)),@(#[_,rfl,_,_,rfl,rfl,(?PC ?a),?_]),@(?a ?b (?Q4 L (?n (?tF i (?kI))))),@(Ao (i:=?a) ?b ?dZ),@(Ai (?OW ?a ?b)),@(Aa ?a (Aa ?o ?aF)),@(Aa ?a (Aa ?b ?jM)),@(#[_,.of ?a]),@(#[?a,_,?L,_,rfl,rfl,Ab,?_,?cQ ?b,?IX]),@(Dc (C5 (?T6 ?a ?b))),@(σ'=[?q,?bK,iS j,iS A,iS B,?bD,iS ?a,iS c,?T7 ?c5,?T7 ?d7,rS ci,rS di]),@(σ'=[?q,?bK,iS j,iS A,iS B,?bD,iS ?a,iS c,?T7 ?c5,?T7 ?d7,rS ci,none]),@(Ai (Bb ?a)),@(Fc (K:=K) ?l ?a),@(Aa ?a Ad),@(Ba ?W ?a ?b ?A),@(σ'=[?q,?e1,?c (?fM),?T7 (f i),?T7 (f ?a),rS P]),@(σ'=[?q,?Q,?z,?a,none,none,none,none,none,none]),@(λσ' H'=>σ'=?a/\?b),@(Am ?a ?_ ?b1),@(Ku (v:=?e ?a) ?g I0 ?bG),@(H' ?a=?TC ?b),@(λσ' H'=>Ea λ ?e3=>By (σ'=?a) ?hJ ?a7 (?bT=?T9 [])),@(Bx (?aH (Ln (Dc (C5 (?TA (D8 (K:=K)) ?a))) ?b)) ?a5 Bj),@(Bh Eg ?a Ak),@(C7 ?r ?bP J8 hr (?OP ?p ?a)),@(Ev (σ'=?a) ?a7 (?bT=?T9 ?b)),@([?q,?e1,?c (?fM),?T7 (f i),?T7 (f ?a),none]),@(Nl λ ?EN ?t5 ?vV=>Ev (?U5 o4) ?a (J ?b t s)),@(H' ?a=?T9 ?b),@(B6 qb8 rfl (?P6 Cd ?a) (?OT 7 ?dD) (Ai ?b)),@(λσ' H'=>Ea λ ?e3=>By (σ'=?a) ?hJ ?a7 ?b),@(?a ?b=none),@((?a).map ?S),@(restB ?a (?f5 i) ?gD),@(σ'=(?TD ?b6 ?a)),@(λi ys τ G _ hz=>?TK ?jD ?a),@(?a _ _ (?UV XD)),@(?a D=?TJ ?b),@(Ao (i:=?a) ?dW (Fh ?g6 ?b ?HK Ir)),@(Bx (?aH (Ln ?a ?b)) ?a5 Bj),@(λ_ _ _ _=>?a),@(#[_,(?VG ?a),?_]),@(Ao (i:=?a) ?b9 ?b),@(Ao (i:=5) ?a ?b),@(Ao (i:=?a) ?cE ?b),@(Aa ?a (Aa ?p ?b)),@(Br (?T6 ?a ?b)),@(Az ?kD ?j7 Ob ?a),@(Ai (Bx ?a ?b Bj)),@(C9 (?PO R2 (?e ?a)) (R2≠N) (?TS R2) ?jG ?b),@(λσ' H'=>Ev (?VK j) (?V2 H') ?a),@(Ai (?VH ?a)),@(Ao (i:=6) ?a ?b),@(DV (K:=K) ?g ?uW ?a),@(Br (G6 (K:=K) qd7 qg1 qg0 Fi ?a ?b)),@(insAt ?L (?f ?a) ((?b).eraseIdx i)),@(Iv lf (c.take ?a)),@(B8 (N':=?vS) (cap:=?tB) ?g ?aB ?a (?T5 RZ) ?aI ?b),@(Aa ?l (?OP ?a ?b)),@(Ba ?aU (?VJ ?a ?aW) Ak ?A),@(B8 (N':=[?b7]) (cap:=?k5) ?g ?aB ?a (?T5 SG) ?aI ?b),@(Bx ?a ?a5 Bj),@(Bh Cq ?a Ak),@(Aa ?a (?VI ?b)),@(λσ' H'=>Ea λ ?HR=>?WI ?a (H' R2=?TJ ?b)),@(?a (K:=K)),@(Aa ?a Ad),@(Bh Cq Ak (?VS (Bh Kw ?l ?a))),@(Fh ?g6 ?l ?a (Fr ?b)),@(B6 qb8 rfl (Lp ?o) ?a ?b),@(Aa ?a1 (?OP ?a ?b)),@(Lo ?a (Lq ?p ?r Ga)),@(Nz L4 hr ?g ?oL ?a),@(Az ?aT ?aN qg2 ?a),@(An Pk hr (?WW ?a ?b)),@(Aa ?a ?aF)])
noncomputable abbrev Qo:Stmt:=top 85
def Cp:?v [?kW,?gU,?F9,"_law_size","_law_base",?jA,?z4] ?xA (Ar Qo):=Bi
def dY[?x](F:E9 K ?rW ?rW Qo f fd)[?w] :?SR ?xA Ut:=by
 apply ?PB Cp;let#[c,fam,letters,rfl,hl0,hl1,hf,k]:=h;have m1:0<=?cN:=?yV;have m2:?cN<4:=?r8
 apply#[_,(Ac (?R4 Eg Ak)
  (Ac (?P8 ?cX (?VS ?l))
  (Ac (?PG ?cX ?p)
  (Ac (?TN ?o (?P8 ?cX (?WV ?r)))
  (Ac (Bx (?TR (?P0 Qv ?o) (?P0 Ib ?r)) (Ai (?P8 ?cX Ak)) Bj)
  (Ac (Bx (?P0 cC ?o) (Ai (?PG ?cX ?o)) Bj)
  (Ac (?R4 Kw Ak)
  (Ac (?WC ?cX (Es Ad))
  (Ac (B6 qb8 rfl (?U9 ?eS) (?OT 6 ?cX) (Ac (?WC ?cX (Bh (?WY Va) ?a1 (Es (?VI (Bh Eg ?l ?D)))))
  (Ai (?R4 Kw ?D))))
  (?VG ?a1)))))))))),?_]
 ext I
 apply(?V5 1000000);apply(?V5 4);ext lZ;have fork:(fam=0)\/(fam<0/\?cN=1)\/(fam<0/\¬?cN=1)\/0<fam:=O9m
 have RY:¬fam=0->¬(?E9):=λz q=>z (by simpa using q);have A19:fam=0->?E9:=λz=>by simp[z]
 have hb0:0<letters:=hl0;have hb1:letters<1073741824:=O9m
 rcases fork with hz|⟨hz,h1⟩|⟨hz,h1⟩ | hz
 . ext bS;apply ?SK (A19 hz);apply ?DS;ext cD;ext eC;ext dI;ext cD;ext eC;have hW:∀w:?iH,w.length=(?cN+1).toNat->?uB:=λw e=>?m #[hz,O9m,O9m];ext sK
   apply Ch (lo:=0) (n:=(?cN+1:Int).toNat)
    (?P2 (?e (?cN+1)))
    ?rM ?_ ?_
   . ext lW
     ext U
     ext z6
   . ext sJ
 . ext bS;apply ?t4;ext cD;ext A0;ext bS;apply ?R3 (eqI h1);ext cD;ext eC;have hW:?IY:=λw e=>?B (?m ?M9);ext sK
   apply Ch (lo:=0) (n:=?CF)
    (?P2 (?e (?cN)))
    ?rM ?_ ?_
   . ext lW
     ext U
     ext z6
   . ext sJ
 . ext bS;apply ?t4;ext cD;ext A0;ext bS;apply ?SK (neI h1);ext cD;ext eC;have hW:∀w:?iH,w.length=?EH->?uB:=λw e=>?B (?m #[hz,?B (?B e)]);ext sK
   apply Ch (lo:=0) (n:=?EH)
    (?P2 (?e (3)))
    ?rM ?_ ?_
   . ext lW
     ext U
     ext z6
   . ext sJ
 . ext bS;apply ?t4;ext cD;ext eC;ext dI;ext cD;ext A0;ext lZ;have hW:?IY:=λw e=>?B (?B ?M9);have hb0:0<fam:=hz;have hb1:fam<1073741824:=O9m
   ext sK
   apply Ch (lo:=0) (n:=?CF)
    (λi σ H2=>Tb λ ?nP ?oI ?qB ?qJ=>By (σ=[?sI,?bX,?g8,?T7 (?cN),?bX,?bE,o]) ?g9 ?oO ?oU)
    ?rM ?_ ?_
   . ext lW
     ext U
     revert σ;apply Xz ?_;intro c' v o w s2 tv hwl Er;let ?KV:=tv.sq;apply ?LP;have s3:?RH pt (?C [?e (c'%fam)]):=?y hpt;apply ?FH;apply ?CC;apply(?UL [c'%fam]);rw[qb4];exact q3
   . ext sJ
noncomputable abbrev M0:Stmt:=top 88
def Z0:?v ?pE ?pE (Ar M0):=Bi
def f7[?x](F:E9 K ?mR ?mR M0 f fd)[?w] :?SR ?pE Zm:=by
 apply ?PB Z0;let#[c,rfl,kq]:=h
 apply#[_,(Ac (?TN (?VS ?l) (Bb (?PP ?l)))
  (?VG (?S1 ?l))),?_]
 ext I
 apply ?OO (?VM [iS c] ?aZ)
 . apply(?R1 2);apply ?c6 ?kS (λ_=>?jO);apply#[_,rfl,_,_,rfl,rfl,?gG,_,_,rfl,rfl,?sA,_,_,rfl,rfl,?lI,_,_,rfl,rfl,_,_,rfl,rfl,(?PC ?eV),_,_,rfl,rfl,?sA,_,_,rfl,rfl,kq _ ?_];show(c / 2%(?eV)-?x3).natAbs<?hU;have m0:=?SW ?qX ?eV;have m1:=?SX ?qX ?eV;omega
 ext aS;apply#[_,rfl,_,_,rfl,rfl,?gG,_,_,rfl,rfl,(?E:?b0<41),_,_,rfl,rfl,kq _ ?_];have m0:=?SW ?qX 41;have m1:=?SX ?qX 41;have e:?FK:=?E
 rw[e];omega
noncomputable abbrev Ji:Stmt:=top 3
def Ux:?v ?qK ?qK (Ar Ji):=Bi
def U5[?x](F:E9 K ?rJ ?rJ Ji f fd)[?w][?zM]:?OR ?qK Ij:=by
 apply ?PB Ux;let#[x,d,b,rfl,hx,k]:=h;apply(?SH Gk (Pa (RK LU Qv Ak ?l ?o)));apply#[_,rfl,x,d,rfl,hx,_,rfl,?_];ext zW
 . let#[i,rfl]:=IW e;cases (show x=?bC from hx);ext cD;apply ?c6 (λe1=>?_) (λe1=>?_)
   . apply ?DS;have e2:?t2=?tN:=by show(?aJ (0<=i)&&?tN)=_;rw[e1];rfl
     rw[e2]at k;exact k
   . have e2:?t2=false:=by show(?aJ (0<=i)&&?tN)=_;simp at e1;ext c2
     rw[e2]at k;exact k
 . have e2:belowD d b=false:=by
    cases d<;>first | rfl | (exfalso;exact e rfl)
   rw[e2]at k;exact k
noncomputable abbrev jH:Stmt:=top 15
def Y4:?v [?gQ,?dQ,?d1,?cG,?b7] ?oC (Ar jH):=Bi
def WJ[?x](F:E9 K ?oS ?oS jH f fd)[?w][?NG]:?OR ?oC Y1:=by
 apply ?PB Y4;let#[a,b,ms,ns,rfl,ha,hb,hm,hn,k]:=h
 apply#[_,(Ac (?PH Y4.nd (?TO ?aX))
  (Ac (Qt (?X2 (?OS (?TM 3 Y4.nd) (?TM 4 Y4.nd)) (Ai (?WF R9 (Aa ?p ?lH)))))
  ?jE)),?_]
 ext I
 apply#[_,rfl,a,?bJ,rfl,ha,?bM];have Yp:b≠D:=?BW;apply ?QQ ?fE (by rw[?rR];exact hb);apply ?DN
 let B10:?aQ:=λi σ H1=>Ko λo1 o2=>By (σ=[?j,?z,?H,o1,o2]) (H1 b=?c (?QW (?fE))) (?W6 H1 (?JJ)) ((∀c q,?k7->?gW->H c=?cV->?tH))
 apply Sa (d:=b) (o:=o) (kvs:=?fE) B10
  ?LH (λi σ H1 _ hz=>?JW) ?_ ?_
 . rw[?KQ,Ab];rfl
 . intro c q n1 n2 e;rw[?kK,?oZ];exact e
 . rintro i kk x σ H1 p hx C6 hp
   ext U
   ext lS;intro o1 o2 hb1 D7 hk1 Er;ext gX;have npb:b≠p:=Aq hb1 hp;have npD:D≠p:=Aq D7 hp;have hlt:?tQ:=?lA;ext iT;apply#[_,rfl,_,rfl,_,rfl,D,?JJ,q.1,q.2,rfl,(by rw[Al npD];exact D7),?_,?_]
   . have:=HJ (ns.take i) ms;rw[qd5]at this;omega
   . apply#[_,_,rfl,?_,?_,?v0]
     . rw[?rR,Al npb];exact hb1
     . rw[Ab,nY hq]
     . rw[?oZ,Al (Aq (?DJ) hp)];exact ?DJ
 . rintro σ H1 C6;ext lS;intro o1 o2 hb1 D7 hk1 Er;rw[Kn,qd2]at D7;apply#[hb1,_,rfl,k D _ hD (?jJ) (?oM)];ext fB
   . ext iU
   . rw[?e4];exact hk1 c q z ?AX e
noncomputable abbrev Ip:Stmt:=top 33
def Tj:?v ?gB ?gB (Ar Ip):=Bi
def T3[?x](F:E9 K ?q2 ?q2 Ip f fd)[?w][?zL]:?OR ?gB Ef:=by
 apply ?PB Tj;let#[a,i,xs,rfl,hL,Da,k]:=h;let ?IO:=LT.len hL;let#[_,us',z,hq',r]:=?nM;apply#[_,(?VG (B8 (N':=[?cG,?rN,"k"]) (cap:=[none,none,?jL]) ?g ?aB (?RW U3 ?aX) (?TF yP yP) (?W9 (Y5 (Bf Fb (?T6 Gj ?a0) ?p ?s))) (?W9 ?l))),?_];cases z;apply(?RO a #[us',hq']);have Bp2:us'.length=xs.length:=?pF
 let B09:?aK:=λj ys τ H1=>C9 (j<=us'.length) ?jC ?i6 (ys=(U2 xs i j).map ?S) (?R9 [o1,o2,?bK])
 apply CY (K:=K) (a:=a) (xs:=us') B09
  #[?bL,?f2,Ab,rfl,?k,?k,rfl] (λj ys τ H1 _ hz=>by let#[_,s1,_]:=hz;exact ?e7 hq') ?_ ?_
 . rintro j v ys τ H1 p hv C6 hp;revert τ;apply sU ?_;intro hj s1 D7 hys o1 o2 Er;have hj2:j<us'.length:=?nN;have hj3:j<xs.length:=O9m
   let ?LR:=r.getV hv
   have edv:dv=tI (?uJ):=by
    rw[qb0,qa0 hj3]at tM;rw[qa1,qa0 hj3];simpa using tM.symm
   subst edv;have sp:?UU p [?e j,v]:=?eL;ext iT;apply#[_,rfl,v,?C3,rfl,?B (?F (?rX) rv),_,rfl,rfl,_,rfl,?_];rw[?R2 ?C3 ?JS];have hDp:(?Q4 p (?C [?e j,v])) D=?qH:=?GF;have yl:ys.length<=j:=by rw[hys,qa4];exact E3 ..
   apply ?DU
   . have h3:?JY:=?hZ
     apply#[_,rfl,hDp,?dE,O9m,(?rX).turn hD,Ab,?_,_,_,rfl];rw[rG h3,qb4,hys];rfl
   . have h3:¬?JY:=?hZ
     apply#[O9m,?rX,hDp,?_,_,_,rfl];rw[VY h3];exact hys
 . rintro ys τ H1 ⟨_,s1,D7,hys,_⟩;rw[Bp2]at hys;apply k D H1 hD s1 ?_;rw[D7,hys];rfl
noncomputable abbrev Gv:Stmt:=top 37
def Qj:?v ?mB ?mB (Ar Gv):=Bi
def Qx[?x](F:E9 K ?r4 ?r4 Gv f fd)[?w][?zM]:?OR ?mB J3:=by
 apply ?PB Qj;let#[a,n,f,rfl,hq,hn,k]:=h;apply#[_,(?VG (M5 (?TA (?WY D8) ?l) (M5 (Kv Fb ?fK ?o ?s) (Pa (?WG (Aa (?WT ?rA (?P3 Gk ?aX)) Ad)))))),?_];apply#[_,rfl,?fT,?eM,dL n f,rfl,?uM,uB hq,_,rfl,?_];apply ?SK (by simp[ME,dL]);apply#[_,rfl,a,_,rfl,?iI,_,rfl,rfl,_,rfl,?_];apply ?SK (isI (?tR));ext sN
 let B08:?aK:=?UO ?jK
 apply Cs (K:=K) (a:=a) (xs:=VI n f) B08
  ?hO (?QN _) ?_ ?_
 . ext sM;ext zX;let ?BD:=Xm hx;apply#[_,rfl,_,?e (f i),rfl,rfl,D7,?xT,?wP,Ab,?_,_,rfl];rw[qq9,qb4];rfl
 . ext zU;apply#[D,?DM,rfl,?vH,?_];rw[?SV ?DM];exact ?i3
noncomputable abbrev Wq:Stmt:=top 39
def jF:?v ?gK ?gK (Ar Wq):=Bi
def jP[?x](F:E9 K ?m3 ?m3 Wq f fd)[?w](eU:Has P w K mg ?d ?MA [?a6,"j"] 1 (bX K)):?OR ?gK Jf:=by
 apply ?PB jF;let ?EY:=h;apply(?WA (B8 (N':=["j",?a6]) (cap:=?AO) ?g ?aB (?U9 ?a0) (?T5 Ae9) ?aI (?P3 eU (Aa ?o ?aX))));ext zR
 let B07:?aK:=λi ys τ H1=>Ea λas=>By ?o1 ?qU (?dC H H1 D as h (λi j=>f j i)) (?PV [o,?bE])
 apply Kc B07
  ?k8 ?_ ?_
 . ext OD;have hi2:i<w:=O9m
   apply#[_,rfl,_,rfl,v,h,w,i,f,?I2,?HA,hh,hi2,?vB];ext z7
 . ext zB
noncomputable abbrev JH:Stmt:=top 41
def vO:?v ?qA ?qA (Ar JH):=Bi
def wK[?x](F:E9 K ?oJ ?oJ JH f fd)[?w](v9:Has P w K mg ?d ?FW [?yX,"i"] 1 (Zn K)):?OR ?qA dO:=by
 apply ?PB vO;let#[n,rfl,hn,k]:=h;apply(?WA (B8 (N':=["i",?yX]) (cap:=?AO) ?g ?aB (?U9 ?aX) (?T5 Ae7) ?aI (?P3 v9 (Aa ?o ?aX))));ext zR
 let B06:?aK:=λi ys τ H1=>Ea λas=>By ?o1 ?qU (?dC H H1 D as n (?QC 0)) (?PV [o,?f6])
 apply Kc B06
  ?k8 ?_ ?_
 . ext OD;apply#[_,rfl,_,rfl,n,i,?I2,hn,?vB];ext z7
 . ext zB
noncomputable abbrev Ow:Stmt:=top 43
def G8:?v [?fX,?a6,?bB,?d1,?b7,?g1] ?yU (Ar Ow):=Bi
def AV[?x](F:E9 K ?o9 ?o9 Ow f fd)[?w][?zE]:?OR ?yU Su:=by
 apply ?PB G8;let#[x,v,h,w,a,f,rfl,hx,hv,hh,hw,hm,k]:=h;let#[tb,us,rfl,hq,Ys,Pi]:=?j4
 apply#[_,(Ac (?P8 ?pX (Bh rO ?IF ?p))
  (Ac (B6 qb8 rfl (?WM ?c0) (?OS (?TM 4 ?pX) (?TM 5 ?pX)) (Ai (?P8 ?pX (?T6 Jm (Aa Ak (Aa ?r (Aa ?D ?cF)))))))
  (?VG ?r))),?_]
 ext I
 apply ?OO (λσ' H'=>Ea λT=>By (σ'=[rS x,rS tb,iS w,rS T,none,none]) (?TS T) ?a7 (?VP T (VI w λ_=>0)))
 . apply#[?bQ,λl0 hl0=>?_];have s0:?h H (upd H l0 ?n3):=?y hl0;apply#[_,rfl,l0,_,_,rfl,rfl,Ab,O9m,O9m,?yG,?wA];apply ?OQ #[T,rfl,?s2 hT,?z3 (?yC),?_];rw[Ab,qf9,Al4]
 apply Mf λT0 H1 hT0 s1 hT1=>?_;intro sq;apply#[_,rfl,_,rfl,x,tb,rfl,#[_,?e7 hx],#[_,?kJ],?_]
 apply XG (K:=K) (a:=x) (b:=tb) (xs:=VI h a) (ys:=us) (n:=h) (by rw[Bu,Ys,qv0]) (λi σ H2=>Nl λT o1 o2=>By (σ=[rS x,rS tb,iS w,rS T,o1,o2]) (?TS T) ?g9 (H2 T=?TC (VI w λj=>sumN (λk=>a k*f k j) i)))
  #[T0,?k,?k,rfl,hT0,s1,hT1] (λi σ H2 _ hz=>by let#[_,_,_,_,_,s2,_]:=hz;exact#[?mA hx,?mA hq]) ?_ ?_
 . rintro i u v σ H2 pr hu hv C6 hp;ext lT;intro T o1 o2 hT s2 hT2 Er;let ?BD:=Xm hu;let ?FU:=Pi i _ hv;have sp:?RH pr (?C [?e (a i),?p0]):=?eL;ext O4;apply#[_,rfl,_,rfl,_,rfl,1,a i,T,b,w,_,f i,rfl,?OU sp hT2,(?yB).seq hb,O9m,λj hj=>#[?lI,hm i j hi hj],λD H3 hD s3 fS=>?_];apply#[D,_,_,rfl,(?yB).free hD,?QH ?yB s3,?_];rw[fS]
   congr 2
   apply Rk λj hj=>?_;show 1*_+_=sumN _ i+_;rw[qd8]
 . rintro σ H2 C6;ext lT;intro T o1 o2 hT s2 hT2 Er;exact#[_,rfl,k T H2 hT s2 hT2]
noncomputable abbrev Qm:Stmt:=top 47
def Ou:?v [?bU,?tP,?b7,"i","face"] ?vZ (Ar Qm):=Bi
def dX[?x](F:E9 K ?pZ ?pZ Qm f fd)[?w][?NG]:?OR ?vZ Us:=by
 apply ?PB Ou;let#[a,v,ms,fs,n,rfl,ha,hv,hm,kq]:=h;let#[af,rfl,sq]:=TI.sq hv;apply#[_,(Ai (B6 qb8 rfl (?RW RH ?a0) (?OS (?TM 3 Ou.nd) (?TM 4 Ou.nd)) (Ai (?WF R9 (?WR ?D (c5 (Bf Fb (?VS ?r) Ak ?s) ?p (Nw Je ?p))))))),?_]
 let B05:?aQ:=λi σ H1=>∃o1 o2,σ=?ER/\Oh a H H1/\H1 a=?TJ (?BF)
 apply#[_,rfl,af,rfl,#[_,sq],OZ (K:=K) (a:=af) (xs:=?IH) B05
  #[?k,?k,rfl,λ_ _ _ e=>e,ha] (λi σ H1 _ #[_,_,_,s1,_]=>SqT.x s1 ha sq) ?_ ?_]
 . rintro i x σ H1 p hx C6 hp
   ext U
   apply ex2 ?_ C6;clear C6;intro o1 o2 C6;apply Bx0 ?_ C6;clear C6;rintro rfl s1 ha1;have hi:i<fs.length:=?q7
   have hxv:x=?kT:=by
    ext zD
   subst hxv;have sp:?UU p [?bC,?kT]:=?eL;have ha2:=?RX ha1;have hl:=W2 ms fs n i;ext iT
   have fin:∀m,m=AO n i->Rs K [?fT,?kT,?e m] (?Q4 p (?C [?bC,?kT])) (λv H'=>∃o1 o2,([?j,rS af,?f6,?e1,?c (?kT)]:St)=?ER/\Oh a H H'/\H' a=?TJ (Ih ms fs n ?cT)) E0:=by
    intro m hm2;subst hm2;apply#[a,?BF,_,_,rfl,ha2,O9m,_,_,rfl,λc q n1 e=>?_,Ab];rw[?kK];exact ?RX (s1 c q n1 e)
   apply#[_,rfl,_,rfl,_,rfl,_,_,rfl,rfl,(?PC 2),rfl,_,rfl,?_];ext bR
   . have h2:?aP%2=0:=?Z
     exact#[_,rfl,fin n (by unfold AO;rw[?cH h2])]
   . have h2:¬?aP%2=0:=?Z
     exact#[_,rfl,_,rfl,fin (-n) (by unfold AO;rw[?b4 h2])]
 . rintro σ H1 ⟨o1,o2,rfl,s1,ha1⟩;rw[qa4]at ha1;exact kq H1 s1 ha1
noncomputable abbrev Z2:Stmt:=top 53
def Wi:?v [?nV,?c7,?d1,"i"] ?y8 (Ar Z2):=Bi
def OA[?x](F:E9 K ?p7 ?p7 Z2 f fd)[?w][?zE]:?OR ?y8 Zt:=by
 apply ?PB Wi;let#[r,u,as,n,W,f,t,rfl,x,hu,hm,hn,hW,k]:=h;have hq:SqL K H r ?h6:=.of x.2.1
 apply#[_,(Ac (?PH Wi.nd (?TT ?aX))
  (Ac (Ao (i:=3) Wi.nd ?gC)
  (Ac (Bx (Bf Fb ?gC O9 ?s) (Ai (?X4 (?WT (?P6 Cd ?fP) (?W9 (Nw Je ?l))))) (Ai (Bx (Bf Fb ?gC O9 ?s) (Ac (?X4 (?VJ ?l ?gC))
  (Ai (Lo ?fP (Lq ?p ?gC Ga)))) (Ai (?X4 (?T6 Jm (Aa Ak (Aa ?fP (?OP ?gC (?VJ ?l ?gC))))))))))
  ?jE))),?_]
 ext I
 apply#[_,rfl,r,?fH,rfl,?iI,λL hL=>?_];have sL:?h H (?BI):=?y hL;generalize hHL:?BI=HL at sL;have hLL:HL L=?TC ?h6:=by rw[←hHL];exact Ab
 have hqL:SqL K HL r ?h6:=?lJ hq
 have fin:∀(i:Nat) (D:Addr) (H1:Hp),i<n->?W0 HL D->?DQ->H1 D=?R5 W (VG t f i)->(∀r,r≠i->VG t f r=f r)->H1 L=?TC ?h6/\?V6 Q (?f L):=by
  intro i D H1 hi hD s1 h1 he;have nDL:D≠L:=λz=>by rw[z,hLL]at hD;cases hD
  apply#[s1 _ _ hLL,?_];have s2:?V6 ?h H:=(sL.trans s1).turn hL;apply k L (as.set i D) _ hL s2 (x.made s2 hi Ab (by rw[Al nDL];exact h1) he) ?cC;rcases qn8 ha with ha | rfl
  . exact#[?wD,λz=>x.there.2 a ha (z▸hL)]
  . exact#[?B (sL.free hD),nDL]
 cases t with
 | sw i j=>exact hm.elim
 | mi i =>
   have hi:i<n:=hm;let ?ET:=hu;let ?JH:=rT;have hT1:SqT K HL ta [V.str "minus",?S i]:=?DV;let#[b,_,eb,_,hb]:=?J2;apply ?J9;ext zF;apply ?SK ?cB;apply#[_,rfl,_,rfl,r,_,_,_,rfl,rfl,hqL,Bo eb,b,rfl,#[_,?lJ hb],?bM]
   let B04:?aK:=λc ys τ H1=>By (?DQ) ?i6 (ys=VI c (λc=>-(f i c))) ?jK
   apply Cs (K:=K) (a:=b) (xs:=VI W (f i)) B04
    ?hO (λc ys τ H1 _ hz=>by let ?l4:=hz;exact ?e7 (?lJ hb)) ?_ ?_
   . rintro c y ys τ H1 hx C6;ext lU;ext zX;let#[hc,rfl]:=Xm hx;apply#[_,rfl,_,rfl,D7,?KN,?wP,Ab,?_,_,rfl];rw[V0]
   . ext zU;rw[Bu]at D7;ext MV
     ext N1
 | ad i j m =>
   let#[hi,hj,hij,hm]:=hm;let ?ET:=hu;let ?H9:=rT;have hT1:SqT K HL ta [V.str "add",?S i,?S j,?S m]:=?DV;let#[bi,_,ebi,_,hbi]:=?J2;let#[bj,_,ebj,_,hbj]:=?P6 x.row hj;apply ?J9;ext zF;apply ?DF;ext zF;apply ?DF;apply#[_,rfl,_,rfl,r,_,_,_,rfl,rfl,hqL,Bo ebi,_,rfl,ta,_,_,_,rfl,rfl,hT1,rfl,_,rfl,_,rfl,ta,_,_,_,rfl,rfl,hT1,rfl,r,_,_,_,rfl,rfl,hqL,Bo ebj,?_];apply#[1,m,bi,bj,W,f i,f j,rfl,?lJ hbi,?lJ hbj,hW,λc hc=>#[?lI,hm c hc],?t3];ext MV
   ext N1
noncomputable abbrev Fw:Stmt:=Fd ?LY 2
def Do:?v [?a9,"i","j",?gQ,?dQ,?hS,"a","b","c","d",?g1,"back"] ?fF (Ar Fw):=Bi
def Q0[?x](F:E9 K ?eH ?y0 Fw f fd)[?w](Hs:Has P w K mg ?d ?L8 ?oC 1 (Xw K))[?zE]:Bv P w K mg ?d Eo 2 f fd ?fF ?jF:=by
 apply ?PB Do;let#[p,C,r,b,sv,n,W,i,j,A,B,s,N,rfl,hC,x,hi,hj,hij,hn,hW,hA,hB,lA,lB,bo,k]:=h;ext N3;let ?FD:=x.refs;have rb:=x.ne
 have hc:?FB:=by
  rcases hC with rfl | rfl
  . ext O0
  . ext NV
 apply#[_,(Ac (?WC ?gL (?T6 Hs ?lH))
  (Ac (?U4 6 ?bW)
  (Ac (?U4 7 ?bW)
  (Ac (?U4 8 (Nw Je (Bh J4 ?D ?bW)))
  (Ac (?U4 9 (Bh J4 ?r ?bW))
  (Ac (?U4 10 ?c3)
  (Ac (?RZ ?Y (?VA ?mV ?aW))
  (Ac (?RY ?c4 (?VA ?mV ?bH))
  (Ac (?U4 11 ?c3)
  (Ac (?RZ ?bH (?VA ?lD (Nw Je ?c4)))
  (Ac (?RY (Nw Je ?aW) (?VA ?lD ?Y))
  (?VG ?a1)))))))))))),?_]
 ext I
 apply ?OO (λσ' H'=>Tb λ(L:Addr) (g a c:Int)=>By (σ'=[?q,?bK,iS j,iS A,iS B,?bD,none,none,none,none,none,none]) ?a7 (SqT K H' L ?F0) (?uQ A B g a c))
 . exact#[_,rfl,_,rfl,A,B,rfl,hA,hB,lA,lB,λL g a c H1 s1 hL sh=>?OQ #[L,g,a,c,rfl,s1,hL,sh]]
 apply As4 λL g a c H1 s1 hL sh=>?_;intro sq;have g0:=sh.pos;have lg:?JZ:=?Q0 lA;ext OM;have la:a.natAbs<L9:=qc1 sh.la lB;have lc:c.natAbs<L9:=qc1 sh.lb lA;have eB:B.fdiv g=B / g:=?z1;have eA:A.fdiv g=?gP:=?z1;have lz':(B / g).natAbs<L9:=qc1 ?jT lB;have lz:(-(B / g)).natAbs<L9:=by rw[qc7];exact lz'
 have lu:(?gP).natAbs<L9:=qc1 ?jT lA;have hp1:=?kA;have hr1:=s1 _ _ ?jS;let#[ci,_,qH,mci,OV]:=?qP;let#[cj,_,ecj,mcj,hcj]:=?P6 ?nA hj;let#[di,_,edi,mdi,hdi]:=?FA;let#[dj,_,edj,mdj,hdj]:=?P6 xb.row hj;have mk:∀{u:Int}{k c U:Nat}{f:Lat.Mat},u.natAbs<L9->Lat.Bits n U big f->k<n->c<U->?LG u (f k c):=λh1 h2 h3 h4=>JT h1 (h2 _ _ h3 h4);apply ?MN;apply ?MN;apply#[_,rfl,_,rfl,L,_,_,_,rfl,rfl,hL,rfl,_,_,rfl,rfl,cb _,_,rfl,?_];apply#[_,rfl,_,rfl,L,_,_,_,rfl,rfl,hL,rfl,_,_,rfl,rfl,cb _,?_];apply#[_,rfl,p,C,dx,fs,_,rfl,hp1,?bN,?fN,l1,_,rfl,r,_,_,_,rfl,rfl,.of hr1,?j2,?_];apply Am (λσ' H'=>?VF a/\H1=H') ?_ λkey=>?OQ #[by rw[←eA,←eB];rfl,rfl];ext aS;apply ?OO (λσ' H'=>Ea λD1=>Nm (?VF a) (Xp r b H1 H') (Kp H1 H') (?W0 H1 D1) (?iJ=H1 b) (?VP r (?IQ)) (?VP D1 (VI W λk=>a*s.1 i k+c*s.1 j k)))
 . apply#[_,rfl,_,rfl,_,rfl,_,rfl,p,C,dx,fs,_,rfl,hp1,?bN,?fN,l1,_,rfl,r,_,_,_,rfl,rfl,.of hr1,Bo ecj,?_];apply#[a,c,ci,cj,W,?gF,?nT,rfl,?e7 OV,?e7 hcj,hW,?RG la lc,λD1 H2 D7 s2 h2=>?_];have nD:D1≠r:=λz=>by rw[z,hr1]at D7;cases D7
   apply#[_,rfl,p,C,dx,fs,_,rfl,(?Q6 hp1),?bN,?fN,l1,_,rfl,r,_,_,i,rfl,rfl,?Q6 hr1,Kx (by ext sV),?_];exact ?OQ #[D1,rfl,(?kF s2).l,?TX s2,D7,by rw[Al rb.symm,s2 _ _ (?fS),?fS],Ab,by rw[?o3];exact h2]
 apply lJ λD1 H3 vA kp3 n1 b3 r3 d3=>?_;intro sq;have hp3:=vA _ _ pr pb hp1;have kr:?RP as:=?QO na na;have kb:?RP bs:=?QO nb nb;have qr:∀{G:Hp}{k:Nat}{c:Addr},?y5->c∈as->SqL K H c (VI W (s.1 k))->as[k]?=?c c->SqL K G c (VI W (s.1 k)):=λfr hc _ e=>.of (kr fr hc _ (xa.2.2 _ _ e));have rci:as[i]?=?c ci:=by rw[qb0]at qH;let ?s4:=?jQ qH;cases e2;exact e1
 have rcj:as[j]?=?c cj:=by rw[qb0]at ecj;let ?s4:=?jQ ecj;cases e2;exact e1
 have rdi:bs[i]?=?c di:=by rw[qb0]at edi;let ?s4:=?jQ edi;cases e2;exact e1
 have rdj:bs[j]?=?c dj:=by rw[qb0]at edj;let ?s4:=?jQ edj;cases e2;exact e1
 have D1r:D1≠r:=λz=>by rw[z,hr1]at n1;cases n1
 have D1b:D1≠b:=λz=>by rw[z,?fS]at n1;cases n1
 apply ?OO (λσ' H'=>Ea λD2=>Nm (?VF a) (Xp r b H3 H') (?B8) (?W0 H3 D2) (?iJ=H3 b) (?VP r ((?IQ).set j (?d4))) (?VP D2 (VI W λk=>-(B / g)*s.1 i k+?gP*s.1 j k)))
 . apply#[_,rfl,_,rfl,_,rfl,_,rfl,p,C,dx,fs,_,rfl,hp3,?bN,?fN,l1,_,rfl,r,_,_,_,rfl,rfl,.of r3,Bo (by rw[ql7 hij];exact ecj),?_];apply#[-(B / g),?gP,ci,cj,W,?gF,?nT,rfl,qr vA mci OV rci,qr vA mcj hcj rcj,hW,?RG lz lu,λD2 H4 Nd s4 h4=>?_];have nD:D2≠r:=λz=>by rw[z,r3]at Nd;cases Nd
   apply#[_,rfl,p,C,dx,fs,_,rfl,(s4 _ _ hp3),?bN,?fN,l1,_,rfl,r,_,_,j,rfl,rfl,s4 _ _ r3,Kx (by rw[qi4,qa4,xa.1];exact hj),?_];apply ?OQ #[D2,rfl,(?kF s4).l,?TX s4,Nd,?_,Ab,by rw[?o3];exact h4];have e3:H3 b=?yQ:=by rw[b3];exact ?fS
   rw[Al rb.symm,s4 _ _ e3,e3]
 apply lJ λD2 H5 fr5 kp5 n2 b5 r5 d5=>?_;intro sq;have e5:H5 b=?yQ:=by rw[b5,b3];exact ?fS
 have Aj6:=vA.trans fr5;have HN:=fr5 _ _ pr pb hp3;have D2r:D2≠r:=λz=>by rw[z,r3]at n2;cases n2
 have D2b:D2≠b:=λz=>by rw[z,b3,?fS]at n2;cases n2
 apply#[_,rfl,p,C,dx,fs,_,rfl,HN,?bN,?g3,l2,_,rfl,b,_,_,_,rfl,rfl,.of e5,Bo edi,?_];apply Am (λσ' H'=>?VE a/\H5=H') ?_ ?L6;ext aS;apply ?OO (λσ' H'=>Ea λD3=>Nm (?VE a) (Xp r b H5 H') (Kp H5 H') (?W0 H5 D3) (H' r=H5 r) (?iJ=?TC (?M5)) (?VP D3 (VI n λk=>?gP*s.2 i k+-?c5*s.2 j k)))
 . apply#[_,rfl,_,rfl,_,rfl,_,rfl,_,rfl,p,C,dx,fs,_,rfl,HN,?bN,?g3,l2,_,rfl,b,_,_,_,rfl,rfl,.of e5,Bo edj,?_];apply#[?gP,-?c5,di,dj,n,s.2 i,s.2 j,rfl,?SF Aj6,?SE Aj6,hn,?R8 lu (by rw[qc7];exact lz),λD3 H6 fS s6 h6=>?_];have nD:D3≠b:=λz=>by rw[z,e5]at fS;cases fS
   apply#[_,rfl,p,C,dx,fs,_,rfl,(?UV HN),?bN,?g3,l2,_,rfl,b,_,_,i,rfl,rfl,?UV e5,Kx (by ext sW),?_];exact ?OQ #[D3,rfl,(?kF s6).r,?TX s6,fS,by rw[Al rb,?UV r5,r5],Ab,by rw[?o3];exact h6]
 apply lJ λD3 H7 fr7 kp7 n3 r7 b7 d7=>?_;intro sq;have Aj5:=Aj6.trans fr7;have hp7:=fr7 _ _ pr pb HN;have D3r:D3≠r:=λz=>by rw[z,r5]at n3;cases n3
 have D3b:D3≠b:=λz=>by rw[z,e5]at n3;cases n3
 apply ?OO (λσ' H'=>Ea λD4=>Nm (?VE a) (Xp r b H7 H') (Kp H7 H') (?W0 H7 D4) (H' r=H7 r) (?iJ=?TC ((?M5).set j (?f D4))) (?VP D4 (VI n λk=>-c*s.2 i k+a*s.2 j k)))
 . apply#[_,rfl,_,rfl,_,rfl,_,rfl,_,rfl,p,C,dx,fs,_,rfl,hp7,?bN,?g3,l2,_,rfl,b,_,_,_,rfl,rfl,.of b7,Bo (by rw[ql7 hij];exact edj),?_];apply#[-c,a,di,dj,n,s.2 i,s.2 j,rfl,?SF Aj5,?SE Aj5,hn,?R8 (by rw[qc7];exact lc) la,λD4 H8 HR s8 h8=>?_];have nD:D4≠b:=λz=>by rw[z,b7]at HR;cases HR
   apply#[_,rfl,p,C,dx,fs,_,rfl,(s8 _ _ hp7),?bN,?g3,l2,_,rfl,b,_,_,j,rfl,rfl,s8 _ _ b7,Kx (by rw[qi4,qa4,xb.1];exact hj),?_];apply ?OQ #[D4,rfl,(?kF s8).r,?TX s8,HR,?_,Ab,by rw[?o3];exact h8];have e7:=r7.trans r5;rw[Al rb,s8 _ _ e7,e7]
 apply lJ λD4 H9 fr9 kp9 n4 r9 b9 d9=>?_;intro sq;have oZ:=Aj5.trans fr9;have D4r:D4≠r:=λz=>by rw[z,r7,r5]at n4;cases n4
 have D4b:D4≠b:=λz=>by rw[z,b7]at n4;cases n4
 have k19:Kp H1 H9:=((kp3.trans kp5).trans kp7).trans kp9;have u1:?TS D1:=?m1 n1
 have dN:∀{G:Hp}{D:Addr},Kp H G->?W0 G D->?v3:=λkp e=>by
  cases z:H _ with
  | none=>rfl
  | some o=>exact ?r2 e (kp _ (by rw[z];exact λq=>by cases q))
 have k01:Kp H H1:=?gR s1;have u2:?DL:=dN (?rP kp3) n2;have u3:?TS D3:=dN ((?rP kp3).trans kp5) n3;have u4:?TS D4:=dN (((?rP kp3).trans kp5).trans kp7) n4;ext O5
 have hL9:SqT K H9 L ?F0:=by
  rcases hL with h | h
  . exact ?m (by
     have hLr:L≠r:=λz=>by rw[z]at h;rcases h with h|⟨_,h⟩<;>rw[hr1]at h<;>cases h
     have hLb:L≠b:=λz=>by rw[z]at h;rcases h with h|⟨_,h⟩<;>rw[?fS]at h<;>cases h
     rcases h with h|⟨q,h⟩
     . exact ?m (?AP)
     . exact ?B #[q,?AP])
  . exact ?B h
 apply#[_,rfl,k L g a c H9 ((?kF s1).trans oZ) ?H4 hL9 sh #[#[dx,fs,oZ _ _ pr pb hp1,l1,l2,l3,l4,l5],#[_,xa.two (D1:=D1) (D2:=D2) hi hj hij ?_ (λa ha=>kr oZ ha) ?_ ?_ ?_,?cC],#[_,xb.two hi hj hij b9 (λa ha=>kb oZ ha) ?_ ?_ ?_,?cC],rb,x.nr,x.nb,λa ha z=>x.nn a ha (dN ?H4 z)]]
 . rw[r9,r7,r5]
 . show ?UP D1 i;rw[Lat.blend_row_p hij];exact(fr9 _ _ D1r D1b (fr7 _ _ D1r D1b (fr5 _ _ D1r D1b d3)))
 . show ?UP D2 j;rw[Lat.blend_row_q];exact(fr9 _ _ D2r D2b (fr7 _ _ D2r D2b d5))
 . ext O9
 . rcases LZ ha with ha | rfl | rfl
   . exact ?wL
   . exact#[D1r,D1b,nN _ u1]
   . exact#[D2r,D2b,nN _ u2]
 . show ?UH D3 i;rw[Lat.blend_row_p hij];exact fr9 _ _ D3r D3b d7
 . show ?UH D4 j;rw[Lat.blend_row_q];exact d9
 . ext O9
 . rcases LZ ha with ha | rfl | rfl
   . exact ?nQ
   . exact#[D3r,D3b,nN _ u3]
   . exact#[D4r,D4b,nN _ u4]
noncomputable abbrev Kh:Stmt:=Fd ?jW 0
def Wj:?v ?e8 ?e8 (Ar Kh):=Bi
def Wx[?x](F:E9 K ?cK ?MJ Kh f fd)[?w](v7:?UX P):Bv P w K mg ?d Eo 2 f fd ?e8 (?OZ gC):=by
 apply ?PB Wj;let#[p,dx,r,b,rfl,hp,k]:=h
 apply#[_,(Ac (Br (WD v7 hr ?g ?oL (?V9 ?l)))
  (?WK ?dZ)),?_]
 ext I
 apply#[_,rfl,_,rfl,_,rfl,p,dx,Af,r,b,rfl,?kZ,hp,λH1 fs hfs hH1=>?_];have hp1:H1 p=?UD Af fs:=by rw[hH1];exact Ab
 have s1:?bF p H H1:=by rw[hH1];ext OF
 have hl:fs.length<=2:=by rw[hfs];exact ?GN
 apply#[qa9 _,λD hD=>?_];have hDp:p≠D:=Aq hp1 hD;apply#[_,rfl,p,Af,dx,fs,rfl,by rw[Al hDp];exact hp1,T.cl_Stairs,T.na_Stairs_starts,O9m,?_];apply k D _ _ ?_ (by rw[hfs]) (SameX.upd (s1.trans (SameX.of (Same.new hD)))) (by rw[Al hDp.symm];exact Ab) Ab;cases z:H D with
 | none=>rfl
 | some o=>rw[s1 _ _ hDp.symm z]at hD;cases hD
noncomputable abbrev O0:Stmt:=top 76
def Sy:?v [?cI,?dO,?GJ,?nW] ?yP (Ar O0):=Bi
def AX[?x](F:E9 K ?rF ?rF O0 f fd)[?w][?zI][?NZ]:?OR ?yP Qf:=by
 apply ?PB Sy;let#[a,b,xs,k,ms,rfl,hL,hb,hok,kq]:=h;ext dJ
 apply#[_,(Ac (?TP Fz)
  (Ac (Qt (B6 qb8 rfl ?LO (?OT 3 Sy.nd) (Ac (?W8 (?VD Hh ?eS) (Ln (?P0 Qv ?r) (Lm (Bf Ay2 ?r ?fK ?s))))
  (Ai (?W8 (?T0 Ib ?fP) (Ln (?VD Hh (?WZ (Rx ?dA ?p ?r ?A))) (Lm (?P0 Fb (Rx ?dA ?p ?r ?A)))))))))
  ?a5)),?_]
 ext I
 apply(?T3 ?bJ);ext aY;apply ?P1 [?j,?M,?z,none];ext aS;apply ?OO (λσ' H'=>Ea λo3=>σ'=?LT/\?f0)
 . apply ?QQ ?bJ hb;ext zT;have oR:nd ms:=?EF;have hLF:LT K (?K0) ?jH xs:=?h9 (?u8) hb hL;have hbF:upd H b ?d8 b=?xM:=Ab;have hFk:∀c q,?k7->H c=?cV->upd H b ?d8 c=?cV:=λc q n e=>?IJ
   generalize ?K0=F0 at hLF hbF hFk ⊢
   let B03:?aQ:=λi σ G=>Ea λo3=>σ=?LT/\F0=G
   apply Vj (d:=b) (o:=o) (kvs:=?bJ) B03 #[?k,rfl,rfl] (λi σ G _ #[_,_,e]=>by rw[←e];exact hbF) ?_ ?_
   . rintro i kk x σ G hx C6
     ext U
     revert σ;apply ?lK;intro o3 hz1 Er;subst hz1;ext gX;let#[#[h0,h1],hl,hz]:=hok.part q ?gN;have hat:?S5 ms:=E5 oR ?gN;have dg:DGet F0 b (?hP) (?c (?eY)):=Vm (?B #[o,hbF]) hat;apply#[_,rfl,?hP,?hP,rfl,rfl,_,rfl,?_];ext lN;ext cD;ext eC;let#[us,qF,Ys]:=LT.len hLF;apply#[_,rfl,_,rfl,a,us,rfl,?m qF,_,_,rfl,rfl,_,rfl,?_];rw[Ys];ext eC;let#[us2,v2,Bp1,Ai5,tv2]:=?j1 hLF h0 h1;apply#[_,rfl,_,rfl,a,us2,_,_,rfl,rfl,Bp1,Ai5,v2,?C7,rfl,?B tv2,_,rfl,rfl,_,rfl,?_];rw[?R2 ?C7 ?r1];apply ?R3 (by rw[hl];simp);apply#[_,rfl,_,rfl,b,?eY,rfl,dg,?eY,?eY,rfl,rfl,_,rfl,?_];ext lN;apply#[_,rfl,_,rfl,b,?eY,rfl,dg,rfl,_,rfl,?_];apply ?R3 (by simpa using hz);exact ?AK
   . ext aR;apply ?lK;intro o3 hz1 Er;subst hz1;apply#[hbF,?OQ #[o3,rfl,?jJ]];ext fB
     . ext iU
     . rw[?e4];exact hFk c q z e
 apply At0 λo3 G s=>?_;intro sq;exact kq G s
noncomputable abbrev M3:Stmt:=top 78
def Fe:?v [?cI,?h4,?rO,?nW,"_law_sign",?wV] ?wU (Ar M3):=Bi
def f9[?x](F:E9 K ?pN ?pN M3 f fd)[?w][?NF]:?OR ?wU Op:=by
 apply ?PB Fe;let(?SM hch):=h;ext dJ
 apply#[_,(Ac (?PH ?l7 G9)
  (Ac (Qt (B6 qb8 rfl (Y6 ?o) (?OT 3 ?l7) (Ac (?PG ?l7 (Rx ?dA ?o ?r ?A))
  (Ai (B6 qb8 rfl (?P6 U9 ?fP) (?OT 5 ?l7) (Ac (Rw ?dA ?p ?a1 (Bh Cq (Qu ?dA ?p ?a1 Ak ?DT) ?D) ?g)
  (Ai (?PG ?l7 (Bh G0 Ak ?D)))))))))
  (?VG (?T6 Dg ?aF)))),?_]
 ext I
 apply ?OO (?VQ [?j,?z,?H,none,none,none])
 . ext zK
 apply Mf ?t3;ext OL;have hL1:=?f1;apply ?OO (λσ' H'=>Nl λo1 o2 o3=>?VU ?C8 (?J1))
 . apply ?QQ ?bJ hb1;have oR:nd ms:=?EF;ext zT
   apply Vj (d:=b) (o:=o) (kvs:=?bJ) (λi σ G=>Nl λo1 o2 o3=>By (σ=?C8) ?AY (?W6 G ?hB) ((∀c q,?k7->?gW->?tH->?mH)))
    #[?k,?k,?k,rfl,Ab,?oM,?I8] (?PI #[_,_,_,_,e,_]) ?_ ?_
   . rintro i kk x σ G hx C6;ext lT;intro o1 o2 o3 V6 Eu OR Er;let#[q,hq2,rfl,rfl]:=Ma hx;have hlt:?xQ:=(?kO hq2).1;have hqd:?lC=q:=by rw[qa1,hq2];rfl
     have hat:?S5 ms:=E5 oR ?EQ;have hin:=hch q ?EQ
     have kD:?JT:=by
      have e1:Oh b H1 (?Q4 b ?d8):=?u8
      have l1:=?h9 e1 hb1 hL1;have d1:?W6 (?Q4 b ?d8) []:=?oM
      have e2:Oh D (?Q4 b ?d8) G:=λc r n e=>by
       ext fB
       . subst z;rw[Ab]at e;cases e;exact V6
       . rw[?e4]at e;exact ?D2
      exact ?h9 (m:=cK []) e2 d1 l1
     apply#[_,rfl,_,rfl,b,?eY,rfl,?FS,?_];let#[us,v,qF,Ai5,tv]:=?j1 kD ?qC ?n6;let#[av,rfl,sqv]:=TI.sq tv
     have hfl:?r1<=4:=by
      ext O1
      . exact ?vT
      . rw[z];exact ?bL
     have zl:=EH h4 ms i
     have step:V7 xs ms ?cT=FQ ?hB (?k6) q.2 ?r1:=by
      show FQ ?hB (?yS) (?lC).2 (?yS).length=_;rw[hqd]
     rw[step];obtain⟨fs,hfs⟩:∃fs,fs=?k6:=?bG
     rw[←hfs]at sqv hfl ⊢;apply#[_,rfl,_,rfl,a,us,_,_,rfl,rfl,qF,Ai5,av,rfl,#[_,sqv],?_]
     apply mK (K:=K) (a:=av) (xs:=?IH) (λm σ G2=>Ea λo3=>Ev (σ=[?j,?z,?H,?mT,?T7 (?B3),o3]) (?W6 G2 (FQ ?hB fs q.2 m)) (Oh D G G2))
      #[o3,rfl,Eu,λc r n e=>e] (λm σ G2 _ hz=>by let#[_,_,_,st]:=hz;exact SqT.x st Eu sqv) ?_ ?_
     . rintro m y σ G2 hy C6;revert σ;apply YZ ?_;intro o3 Nd st Er;have hm2:m<fs.length:=by have:=?sX;ext aM
       have hyv:y=?T2 m:=by
        rw[qb0,qa0 hm2]at hy;rw[qa1,qa0 hm2];simpa using hy.symm
       subst hyv;have lz:=EI ?hB fs q.2 m;apply#[_,rfl,D,rfl,?m #[_,?m Nd],_,rfl,_,Vl (?m Nd),_,rfl,Au (FQ ?hB fs q.2 m) (fs.getD m 0),_,Vx _ _,rfl,_,rfl,_,rfl,D,_,rfl,Sc Nd O9m,?_];apply#[_,rfl,_,_,rfl,rfl,?c (?T2 m),?_,Ab,λc r n e=>by rw[Al n];exact st c r n e];have:AO q.2 (m+1)=0-?B3:=by unfold AO;split<;>split<;>omega
       rw[this];rfl
     . rintro σ G2 C6;revert σ;apply YZ ?_;intro o3 Nd st Er;rw[qa4]at Nd;exact#[_,_,_,rfl,st _ _ Yp V6,Nd,λc r n1 n2 e=>st c r n2 (?xN)]
   . ext aR;apply cH ?_;intro o1 o2 o3 V6 Eu OR Er;rw[Kn]at Eu;apply#[V6,?OQ #[o1,o2,o3,rfl,?jJ,?wC]];ext fB
     . ext iU
     . ext OG
 apply YC λo1 o2 o3 G sG Eu=>?_;have lz:=EH h4 ms ?HX;exact#[_,rfl,D,?J1,rfl,Eu,O9m,?D7]
noncomputable abbrev Z7:Stmt:=top 79
def Wk:?v [?xL,?j5,?A2,?rO,?nW] ?u9 (Ar Z7):=Bi
def oE[?x](F:E9 K ?s0 ?s0 Z7 f fd)[?w][?NF]:?OR ?u9 Zq:=by
 apply ?PB Wk;let#[a,b,n,ms,ns,rfl,ha,hb,hm,hn,lm,ln,hmul,kq]:=h;ext dJ
 apply#[_,(Ac (?P8 Wk.nd (?TO ?aX))
  (Ac (Qt (B6 qb8 rfl ?LO (?OT 4 Wk.nd) (Ai (Rw ?dA ?r ?D (Bh Cq (Qu ?dA ?r ?D Ak ?DT) (Bh Jt ?o (Rx ?dA ?p ?D ?A))) ?g))))
  (?VG (?T6 Dg ?eS)))),?_]
 ext I
 apply ?OO (?VZ [?j,?f6,?z,?H,none] (?bT=?c (.dK (?bJ))))
 . exact#[_,rfl,a,_,rfl,?wD,?CO]
 apply Mf ?t3;intro sq;ext OL;apply ?OO (λσ' H'=>Ea λo4=>?VU ?G4 (j6 ms n ns ?C9))
 . apply ?QQ ?fE hb1;apply ?DN
   let B02:?aQ:=λi σ G=>Ea λo4=>By (σ=?G4) (G b=?c (?QW (?fE))) (?W6 G ?s3) ((∀c q,?k7->?gW->?tH->?mH))
   apply Vj (d:=b) (o:=o) (kvs:=?fE) B02
    #[?k,rfl,Ab,?oM,?I8] (?PI #[_,_,e,_]) ?_ ?_
   . rintro i kk x σ G hx C6
     ext U
     revert σ;apply mD ?_;intro o4 V6 Eu OR Er;ext gX;have hi:=?lA;have hqd:?m8=q:=?EP
     have hat:?S5 ns:=E5 hn ?gN;have lz:=jY ms n ns i;apply#[_,rfl,D,rfl,?m #[_,?m Eu],_,rfl,_,Vl (?m Eu),_,rfl,_,rfl,_,rfl,b,?eY,rfl,?FS,n,q.2,rfl,rfl,hmul q ?gN,Au ?s3 q.1,n*q.2,Vx _ _,rfl,_,rfl,_,rfl,D,_,rfl,?F8,?_];apply#[_,rfl,?_,?_,?v0]
     . rw[?rR];exact V6
     . rw[Ab];show _=?c (HO.dK (cK (putI ?s3 (?m8).1 (Au ?s3 (?m8).1+n*(?m8).2))));rw[hqd]
     . rw[?oZ];exact ?xN
   . ext aR;apply mD ?_;intro o4 V6 Eu OR Er;rw[Kn]at Eu;apply#[V6,?OQ #[o4,rfl,?jJ,?wC]];ext fB
     . ext iU
     . ext OG
 apply Sq λo4 G sG Eu=>?_;intro sq;have lz:=jY ms n ns ?C9;exact#[_,rfl,D,_,rfl,Eu,O9m,?D7]
noncomputable abbrev O5:Stmt:=top 82
def Ed:?v [?cI,?dO,?nX,?h4,"_law_spot",?nW,?kW,?j5] ?tU (Ar O5):=Bi
def aY[?x](F:E9 K ?qZ ?qZ O5 f fd)[?w][?NZ]:?OR ?tU BW:=by
 apply ?PB Ed;let#[a,b,xs,k,cs,rfl,hL,Da,hb,hcs,kq]:=h;ext dJ;let#[_,us,z,hq,r]:=?nM
 apply#[_,(Ac (?P8 ?g5 G9)
  (Ac (?PG ?g5 Ak)
  (Ac (B6 qb8 rfl (?PJ ?fK) (?OT 5 ?g5) (Ai (Bx (?TR (?T0 Fb (?VJ ?l ?a1)) (Bf cC ?hV Ak ?s)) (Ac (?WL ?g5 (Bh Cq (?VJ ?p (Bh Eg ?D ?hV)) (Bh Kw ?D ?hV)))
  (Ac (?PG ?g5 (?WV ?D))
  (Ac (Ao (i:=7) ?g5 (?S1 ?Y))
  (Ac (?TN (?VS ?Y) (Ao (i:=7) ?g5 (?PP ?Y)))
  (?WH (?TR (?P0 Ib (?VS ?Y)) (?P0 Ib ?aW)) (Ai (Rw ?dA ?r ?a1 ?aW ?g))))))) Bj)))
  (?VG ?r)))),?_]
 ext I
 cases z;have usl:?J4:=?pF
 have Bw4:?FK:=?E
 apply ?OO (?VQ [?j,?M,?z,?H,none,none,none,none])
 . ext zK
 apply Mf λD H1 nD s1 D7=>?_;intro sq;apply Ew (λσ' H'=>σ'=[?j,?M,?z,?H,iS 0,none,none,none]/\H1=H') ?_ ?dX;ext aS;apply ?OO (λσ' H'=>Ye λ ?xB (o4 o5 o6 o7:?bA)=>C9 (σ'=[?j,?M,?z,?H,o4,o5,o6,o7]) ?a7 ?BM (ChL xs k m) (∀q,(Au m q).natAbs<?hU))
 . apply(?TY a (?kJ))
   let B01:?aQ:=λi σ G=>Ye λ ?xB (s:Nat) (o5 o6 o7:?bA)=>Hz (σ=[?j,?M,?z,?H,?c (?e (s:Int)),o5,o6,o7]) ?f7 (G D=?pQ) (ChL xs k m) (s<=i) (∀q,(Au m q).natAbs<?hU)
   apply Ch (lo:=0) (n:=us.length) B01
    #[[],0,_,_,_,rfl,s1,D7,ChL.nil _ _,?nS,λq=>K4 _] ?_ ?_
   . ext lY
     ext U
     revert σ;apply yW ?_;intro m s o5 o6 o7 g Eu hm hsi bm Er;have hin:?b0<=0+?aP/\?h5<?jX:=O9m
     let#[u1,v1,hu1,av1,tv1]:=?j1 (?vI) ?qC ?n6;have Bm9:=hm.ok.len;apply#[_,rfl,_,rfl,a,u1,_,_,rfl,rfl,hu1,av1,v1,?IP,rfl,?B tv1,?_];rw[?R2 ?IP ?CW];ext bS;apply ?c6 (λh1=>?_) ?kS;ext a8
     . exact Hg (λz=>?wQ) ?F4
     have hlv:De ?CW=k:=?Z
     have hp:?h5∈?gZ:=Pc ?qC ?n6 hlv;apply(?SA b ?wK);rw[qa4];apply ?c6 (λh2=>?_) (λ_=>?F4)
     have hc0:0<cs.length:=by
      have:?nY > 0:=?hZ
      omega
     have e0:0<=(s:Int)%?nY:=qk1 _ O9m;have e1:(s:Int)%?nY<?nY:=qh9 _ O9m;have al:=xS (lot:=cs) e0 e1;apply ?VN (λσ' H'=>Ea λ(ce:Int)=>?QY (?e (s:Int)));ext a8
     . apply#[_,rfl,_,rfl,_,rfl,b,_,rfl,?wK,_,_,rfl,rfl,(by ext dK),b,_,_,_,rfl,rfl,?jY hb,(by rw[qa4];exact al),_,rfl,_,rfl,b,_,rfl,?wK,_,_,rfl,rfl,(by rw[qa4];exact#[O9m,O9m]),_,_,rfl,rfl,?Q7 ?AK]
     rintro _ _ ⟨ce,rfl,rfl⟩;apply ?VN (λσ' H'=>?QY (?e ((s+1:Nat):Int)));ext a8
     . exact#[_,rfl,_,_,rfl,rfl,?vA]
     ext eE;ext MP
     . apply#[_,rfl,_,_,rfl,rfl,?gG,_,_,rfl,rfl,(?E:?b0<7),_,_,rfl,rfl,?x9];have m0:=?SW ?nI 7;have m1:=?SX ?nI 7;rw[Bw4];omega
     rintro _ _ ⟨n0,rfl,rfl,hn0⟩;ext MP
     . ext NE;apply ?c6 ?kS (λ_=>?Q7 #[n0,rfl,rfl,hn0]);apply#[_,rfl,_,_,rfl,rfl,?gG,_,_,rfl,rfl,?sA,_,_,rfl,rfl,?lI,_,_,rfl,rfl,_,_,rfl,rfl,(?PC ?eV),_,_,rfl,rfl,?sA,_,_,rfl,rfl,?x9];show(ce / 3%(?eV)-?x3).natAbs<?hU;have m0:=?SW ?nI ?eV;have m1:=?SX ?nI ?eV;omega
     rintro _ _ ⟨n,rfl,rfl,hn⟩;ext NE;apply ?LZ;ext a8
     . exact Hg (λz=>?wQ) ?C5
     ext bS;apply ?c6 (λh3=>?_) (λ_=>?C5);have hn0:n≠0:=?xV
     apply#[_,rfl,_,rfl,_,rfl,D,_,rfl,?F8,?_];apply#[_,s+1,_,_,_,rfl,g.turn nD,Ab,hm.put Da hp hn0,O9m,λq=>?_];rw[Vh];split
     . exact hn
     . exact bm q
   . ext aR;apply yW ?_;intro m s o5 o6 o7 g Eu hm _ bm Er;exact ?OQ #[m,_,_,_,_,rfl,g,Eu,hm,bm]
 apply As1 λm o4 o5 o6 o7 H2 s2 Nd hm bm=>?_;intro sq;exact#[_,rfl,kq D m H2 nD s2 Nd hm bm]
noncomputable abbrev Lk:Stmt:=top 86
def B9:?v [?l5,?jA,?gU,"_law_layer","_law_rows",?z4,"_law_below",?xL,?wV,?KT] ?vU (Ar Lk):=Bi
def Ym[?x](F:E9 K ?mG ?mG Lk f fd)[?w][?N9]:?OR ?vU P0:=by
 apply ?PB B9;let#[l,us,v,ws,w,fam,rfl,hl,hr0,hv,hw,hlen,k]:=h;ext dJ
 have s0w:∀u∈[w],?K9:=λu hu=>by
  have e:u=w:=by simpa using hu
  subst e;exact hw
 apply#[_,(Ac (?P8 ?dD (Gz ?a0))
  (Ac (?PG ?dD ?dZ)
  (Ac (B6 qb8 rfl (?U9 ?dM) (?OT 5 ?dD) (Ac (?PG ?dD (Bh (?WY W3) ?r ?D))
  (Ac (?V7 6 ?dD)
  (Ac (?VY ?r (B6 qb8 rfl (?P6 Cd (?T6 Id (?X8 ?aW))) (?OT 8 ?dD) (Ai (Bx (?TR (Bf ?n0 ?c4 ?l rfl) (Bf ?n0 ?c4 ?Y rfl)) (?V8 ?Y ?c4) Bj))))
  (Ai (?P8 ?dD ?Y))))))
  (Ac (Ao (i:=9) ?dD (?TT ?aX))
  (Ac (?VY ?D (Bx (Bf ?n0 ?aW ?bH rfl) (?V8 ?bH ?aW) Bj))
  (?VG ?bH)))))),?_]
 ext I
 apply#[_,rfl,?bQ,λL0 hL0=>?_];have s1:?h H (?SJ v):=?y hL0;apply#[?bL,λR0 hR0=>?_];have s2:?h (?SJ v) (upd (?SJ v) R0 ?hF):=?y hR0
 apply#[_,rfl,?E,?E,Ch (lo:=0) (n:=(4:Int).toNat)
  (λi σ H2=>LG λ(L R:Addr) (lu ru:?eB) (?mO rows:LLInt) ?xX=>DH (σ=[rS l,?bE,?bX,?bD,rS R,o5,o6,o7,o8,o9]) ?g9 (H2 L=?TC lu) (?d2 K H2 lu (layer.map tI)) (H2 R=?TC ru) (?d2 K H2 ru (rows.map tI)) ((∀u∈layer,?K9)) (Pe ws fam (4-i) ?mO rows=?ES) (layer.length<=4 ^ i) (rows.length<=1000*i))
  #[L0,R0,[v],[],[w],[],?k,?k,?k,?k,?k,rfl,?iS,?Q6 Ab,Reps.one (?r3 (?iS) hv),Ab,rfl,s0w,rfl,?c1,?c1] ?_ ?_]
 . ext lW
   ext U
   ext MW;have hi4:i<4:=by simpa using hi
   have h4i:4 ^ i<=64:=by
    have:i=0\/i=1\/i=2\/i=3:=O9m
    rcases this with rfl | rfl | rfl | rfl<;>decide
   have lul:lu.length=layer.length:=by have:=rL.length;ext aM
   ext N5
   apply#[_,rfl,_,rfl,L,R,_,_,rfl,rfl,.of hL,.of hR,Cb O9m,λR1 hR1=>?_];have sa:?h H2 ?eT:=?y hR1;have Bt1:?eT R1=?TC (lu++ru):=Ab
   have rRa:?d2 K ?eT (lu++ru) (?SG ?CZ):=by
    rw[qb4];exact(?JL).append (?b2 sa rR)
   have hLa:=sa _ _ hL;have rLa:?d2 K ?eT lu (layer.map tI):=?JL;have sHa:?h H ?eT:=?w2 sa;apply#[?bL,?LI];have sb:?h ?eT (upd ?eT B ?hF):=?y hB;have hBH:?L0:=sHa.free hB
   apply#[_,rfl,L,rfl,#[_,?OU sb hLa],?eU (K:=K) (a:=L) (xs:=lu)
    (λj σ H3=>Nl λ ?vG ?tJ=>By (σ=[rS l,?bE,?bX,?bD,rS R1,?T7 (0+i),rS B,o7,o8,o9]) (?h ?eT H3) (H3 B=?tY) (?d2 K H3 bu (?SG ?AR)))
    #[[],_,_,rfl,sb,Ab,rfl] (?UJ #[_,_,_,_,s3,_] hLa) ?_ ?_]
   . rintro j x σ H3 hx C6
     ext U
     ext lT;intro bu o7 o8 s3 hB3 rB Er;have hj:j<lu.length:=?iM;have hjl:j<layer.length:=O9m
     have hjx:(layer.map tI)[j]?=?c (tI ?kQ):=?IZ
     let ?tW:=rLa.get hjx;rw[hx]at hx';cases hx';have hwj:F5 fam ?kQ:=hWl _ (qe4 _);apply#[_,rfl,_,rfl,x,?kQ,fam,rfl,?HE,hwj,λp fu H4 hp s4 R7 r4=>?_];have fl:=K8 hwj;have ful:fu.length=?w8:=by have:=r4.length;ext aM
     have hpB:p≠B:=λz=>by rw[z,hB3]at hp;cases hp
     have hB4:=s4 _ _ hB3
     apply#[p,rfl,(?VB R7),?eU (K:=K) (a:=p) (xs:=fu)
      (λm σ H5=>Ko λ ?vG (o8:?bA)=>C9 (σ=[rS l,?bE,?bX,?bD,rS R1,?T7 (0+i),rS B,?c x,o8,o9]) (?bF B H4 H5) (H5 B=?tY) (?d2 K H5 bu (?SG ?fV)) (?EJ<=1000))
      #[bu,_,rfl,SameX.refl _ _,hB4,(by simpa[Di]using ?b2 s4 rB),?_] (λm σ H5 _ hz=>by let#[_,_,_,s5,_]:=hz;exact .of (s5 _ _ hpB R7)) ?_ ?_]
     . have:=?GT;simp only[List.take_zero,Di,qm7,qd5]at this ⊢;omega
     . rintro m y σ H5 hy C6
       ext U
       revert σ;apply yY ?_;intro bu5 o8' s5 ZC VS Bs2 Er;have hm:?BK:=?sX;have hmf:m<?w8:=O9m
       have hmy:(?SG ?jU)[m]?=?c (tI ?IM):=?AU
       let ?FI:=r4.get hmy;rw[hy]at hy';cases hy';generalize hf:?IM=fc at ty;have ty5:TI K H5 y fc:=TI.t (s5.t hB4) ty
       have hl5:H5 l=?gY:=by
        apply s5 l _ (?nG) (s4 _ _ (?QS (sHa _ _ hl)));rw[z]at hl;rw[hl]at hBH;cases hBH
       have rl5:Rep K H5 (?f l) (?n (?hH)):=#[l,us,rfl,.of hl5,Reps.t (s5.t hB4) (r6 ws) (?b2 ((sHa.trans s3).trans s4) hr0)]
       have rb5:Rep K H5 (?f B) (?n (?SG ?fV)):=#[B,bu5,rfl,.of ZC,VS]
       have e0:?ME=(if fc ∉ ws/\fc ∉ ?fV then ?fV++[fc] else ?fV):=by
        rw[qe7,?tO,hf];exact Yc _ _ _ _
       have Bs1:bu5.length=?EJ:=by have:=VS.length;ext aM
       have tK:(?ME).length<=1000:=by
        have h1:=Uf (ws:=ws) (?uS (m+1)) ?n9;have h2:=?GT;simp only[qm7,qd5]at h1 h2;have h3:?w8<=4:=by have:=fl.1;have:=fl.2;split at*<;> omega
        omega
       generalize hacc:?fV=acc at VS rb5 e0 Bs1 Bs2;apply#[_,rfl,_,rfl,tI fc,?hH,ty5,?m rl5,(by have:=Rf ws;omega),_,rfl,?_];by_cases h1:fc∈ws
       . ext OH;ext dI;apply ?IE;rw[e0,?b4 (by simp[h1])];exact VS
       . ext OI;apply(?Q8 ty5 rb5);by_cases h2:?CN
         . apply ?R3 (by rw[?c9,Ue];simp[h2]);apply ?IE;rw[e0,?b4 (by simp[h2])];exact VS
         . apply ?SK (by rw[?c9,Ue];simp[h2]);apply#[_,rfl,?P7 ZC,_,rfl,B,_,_,rfl,rfl,ZC,?dE,?_];apply#[_,_,rfl,s5.upd,Ab,?_,tK];rw[e0,?cH #[h1,h2]];exact O8 ZC VS ty5
     . rintro σ H5 C6;revert σ;apply yY ?_;intro bu5 o8' s5 ZC VS _ Er;apply#[bu5,_,_,rfl,?_,ZC,?_]
       . exact s5.same (?oE) hB
       . rw[ful,qd2]at VS;rw[qe7,?wF];have e1:?V1 (layer.take j++(?c ?kQ).toList)=Di ws ?n9 (?jU):=AG _ _ _ _ _;rw[e1];exact VS
   . rintro σ H3 C6;ext lT;intro bu o7 o8 s3 hB3 rB Er;rw[lul,qd2]at rB;ext lZ;apply#[B,R1,bu,lu++ru,?V1 ?mO,?CZ,_,_,_,_,_,rfl,sHa.trans s3,hB3,rB,?QS Bt1,?b2 s3 rRa,?_,?_,?_,?_]
     . intro u hu;rcases Sf _ _ hu with z|⟨t,ht,z⟩
       . exact ?LE
       . exact(Ps (hWl t ht) z).1
     . rw[←hlay,show 4-i=(4-?cT)+1 by omega];rfl
     . have:=Od (ws:=ws) (fam:=fam) ?mO [] hWl;simp only[qm7]at this;rw[qh2];omega
     . rw[qc6];omega
 . rintro σ H2 C6;ext MW;have Mn:rows=?ES:=hlay;have Bp9:=JY (ws:=ws) hw;rw[←Mn]at Bp9;ext N5
   apply#[_,rfl,l,_,rfl,?UK sH hl,λM hM=>?_];have sm:?RH M ?rY:=?y hM;have hMH:?KG:=sH.free hM;have usl:?PW ws.length:=by have:=hr0.length;ext aM
   apply#[_,rfl,R,rfl,#[_,?OU sm hR],?eU (K:=K) (a:=R) (xs:=ru)
    (λj σ H3=>Ko λ(mu:?eB) ?uH=>By (σ=[rS l,?bE,?bX,?bD,rS R,o5,o6,o7,o8,rS M]) (?h H2 H3) (H3 M=?TC mu) (?d2 K H3 mu (?SG ?hQ)))
    #[us,_,rfl,sm,Ab,(by simpa[Fu]using ?b2 (?w2 sm) hr0)] (?UJ #[_,_,_,s3,_] hR) ?_ ?_]
   . rintro j x σ H3 hx C6
     ext U
     ext lS;intro mu o7' s3 hM3 rM Er;have hj:j<ru.length:=?iM;have hjl:j<rows.length:=O9m
     have hjx:(rows.map tI)[j]?=?c (tI rows[j]):=?IZ
     let ?tW:=rR.get hjx;rw[hx]at hx';cases hx';generalize hf:rows[j]=fc at tx;have tx3:TI K H3 x fc:=?HE
     have e0:Fu ws (?t0 (j+1))=(if fc∈?hQ then ?hQ else ?hQ++[fc]):=by
      rw[qe7,?wF,hf];exact Yd _ _ _
     have hal:=AK (?t0 j) ws;rw[qd5]at hal;have mul:mu.length=(?hQ).length:=?FM
     generalize hacc:?hQ=acc at rM e0 hal mul;have rm3:Rep K H3 (?f M) (?n (?vE)):=#[M,mu,rfl,.of hM3,rM]
     apply(?Q8 tx3 rm3);by_cases h1:?CN
     . ext OH;apply#[mu,_,rfl,s3,hM3,?_];rw[e0,?xO];exact rM
     . ext OI;apply#[_,rfl,?P7 hM3,_,rfl,M,_,_,rfl,rfl,hM3,?dE,?_];apply#[_,_,rfl,s3.turn hM,Ab,?_];rw[e0,?wI];exact O8 hM3 rM tx3
   . rintro σ H3 C6;ext lS;intro mu o7' s3 hM3 rM Er;rw[rul,qd2,Mn]at rM;exact#[_,rfl,k M mu H3 hMH (?w2 s3) hM3 rM]
noncomputable abbrev Gu:Stmt:=top 9
def Qi:?v ?kG ?kG (Ar Gu):=Bi
def Qw[?x](F:E9 K ?q9 ?q9 Gu f fd)[?w][?NH][?zL]:?OV ?kG (F9 K):=by
 apply ?PB Qi;let#[a,x,d,l,xs,rfl,hL,hx,k]:=h;let ?IO:=LT.len hL;apply(?WA (M5 (?T6 Ex (?OP ?o ?fK)) (Pa (Kv Fb (?T6 Gj (?WZ (Ba ?W ?l ?o ?A))) ?p ?s))));apply#[_,rfl,_,rfl,a,us,rfl,?iI,x,d,_,rfl,hx,_,rfl,?_];rw[Ys];ext zW
 . obtain⟨i,rfl⟩:∃i,d=?bC:=by cases d<;>first | exact ?bG | (exfalso;simp[belowD]at e)
   cases (show x=?bC from hx);have e':?M3:=e;have h0:0<=i/\i<?jX:=by simpa using e'
   let#[us',v,hq',hv,tv]:=?j1 hL h0.1 h0.2;apply#[_,rfl,_,rfl,a,us',i,v,rfl,rfl,hq',hv,v,_,rfl,?B tv,_,rfl,rfl,?_]
   have e2:D5 xs (?bC) l=?aJ (?QG E4=l):=by
    show ?S2 _;rw[e'];simp[E4]
   rw[e2]at k
   have e3:?aJ (?S (?QG E4)=?S l)=?aJ (?QG E4=l):=by
    by_cases z:?QG E4=l
    . simp[z]
    . simp[z]
   rw[e3];exact k
 . have e2:D5 xs d l=false:=by
    cases d with
    | int i =>
      have e':¬?M3:=e;show ?S2 false;rw[Bool.eq_false_iff.mpr e'];rfl
    | _=>rfl
   rw[e2]at k;exact k
noncomputable abbrev Mx:Stmt:=top 32
def Zy:?v ?oD ?oD (Ar Mx):=Bi
def d8[?x](F:E9 K ?oR ?oR Mx f fd)[?w][?NH]:?OV ?oD (Ho K):=by
 apply ?PB Zy;let#[i,b,rfl,h0,h1,k]:=h;apply#[_,(Ai (?PF Ex ?c0)),?_];apply#[_,rfl,_,rfl,?bC,?bC,b,rfl,rfl,_,rfl,?_];rw[show ?t2=true from belowD_of h0 h1];ext dI;exact k
noncomputable abbrev Tq:Stmt:=top 36
def gI:?v ?n1 ?n1 (Ar Tq):=Bi
def gU[?x](F:E9 K ?pK ?pK Tq f fd)[?w](Hx:Has P w K mg ?d ?r4 ?mB 2 (J3 K)):?OV ?n1 (Xt K):=by
 apply ?PB gI;let ?EY:=h;let#[Xq,iJ]:=T.x_MOST_ROWS;let ?M7:=?j4
 apply#[_,(Ac (?VR ?l (Lm (Bf cC ?fK (Ku (v:=?e 40) ?g iJ ?bG) ?s)))
  (?VG (?WG (Aa (?WQ ?rA (?P3 Hx ?c0)) Ad)))),?_]
 ext I
 apply#[_,rfl,?fT,?eM,dT h w f,rfl,?uM,hv,_,rfl,?_];apply ?R3 (by simp[ME,dT]);apply(?SA a ?iI);ext eC;ext sN
 let B00:?aK:=?UO (?PV [o,iS w])
 apply Cs (K:=K) (a:=a) (xs:=us) B00
  ?hO (?QN _) ?_ ?_
 . ext sM;ext zX;let ?AC:=?CA;apply#[_,rfl,_,rfl,b,w,f i,rfl,?e7 hb,hw,?mI];apply#[?FJ,?xT,(?iS).turn hD,Ab,?_,_,rfl];rw[qq9,qb4];rfl
 . ext zU;apply#[D,?CJ,rfl,?vH,?_];rw[?SV ?CJ];exact ?i3
noncomputable abbrev Wm:Stmt:=top 38
def JD:?v ?qY ?qY (Ar Wm):=Bi
def jN[?x](F:E9 K ?qV ?qV Wm f fd)[?w](Q8:Has P w K mg ?d ?o9 ?yU 2 (Su K)):?OV ?qY (Tg K):=by
 apply ?PB JD;let#[u,v,h,d,w,f,g,rfl,hu,hv,hh,hd,hw,hm,k]:=h;let ?M7:=Iz hu;apply(?WA (B8 (N':=[?g1,?dQ,?bB]) (cap:=[none,?jL,?oP]) ?g ?aB ?rA (?T5 Az1) ?aI (?P3 Q8 (?V9 ?l))));ext sN
 let Bz9:?aK:=λi ys τ H1=>Ea λas=>By ?o1 ?qU (?dC H H1 D as w (λi j=>sumN (λk=>f i k*g k j) d)) (?PV [o,?bE,iS w])
 apply Cs (K:=K) (a:=a) (xs:=us) Bz9
  ?k8 (?RC #[as,_,_,R,_] ?dS) ?_ ?_
 . rintro i x ys τ H1 hx ⟨as,hal,rfl,R,o,rfl⟩;let ?AC:=?CA;apply#[_,rfl,_,rfl,_,rfl,b,v,d,w,f i,g,rfl,?dS hb,?HA,hd,hw,λk j hk hj=>hm i k j hi hk hj,?vB];ext z7
 . ext zB
noncomputable abbrev Tu:Stmt:=top 51
def GJ:?v ?oK ?oK (Ar Tu):=Bi
def GW[?x](F:E9 K ?p5 ?p5 Tu f fd)[?w][?sL]:?OV ?oK (BX K):=by
 apply ?PB GJ;let#[a,b,xs,k,ns,rfl,hL,Da,hb,hnl,kq]:=h;apply#[_,(?VG (Cg (aE ?g) ?g ?cP Dx (?WZ (B8 (N':=[?cG,?b7]) (cap:=?AJ) ?g ?aB (?WM (?X8 (?T6 Bs ?c0))) (?TF SD SD) (?W9 (Y5 (?P0 Ib ?o))) (?W9 (Es ?c0)))))),?_];apply#[_,rfl,_,rfl,a,k,xs,rfl,hL,Da,λP H1 hP s1 hP1=>?_];have pl:?IC:=?uR;have hnd:=Gi xs k;generalize mH:?gZ=sp at hP1 hnl pl hnd kq;have hb1:=?e7 hb;have hzn:=iV hnl hnd;have hzl:(?nH).length=sp.length:=by rw[List.length_zip];omega
 apply#[_,rfl,P,b,rfl,(?VB hP1),#[_,hb1],?bM]
 apply IG (K:=K) (a:=P) (b:=b) (xs:=sp.map ?S) (ys:=?pS) (n:=sp.length) (by rw[qa4,qa4];omega) (λi zs τ G=>By (?h H1 G) (G D=?oT) ((∃ts:?pH,zs=ts.map ?bY/\ts.length=?xP/\∀(j:Nat) t,ts[j]?=?c t->∃p:Int × Int,(Dh ((?nH).take i))[j]?=?c p/\G t=?c (?C [?pU,?e p.2])/\t≠D)) (?R9 [o1,o2]))
  #[?f2,Ab,#[[],rfl,rfl,λj t z=>by simp at z],?k,?k,rfl] (λi zs τ G _ hz=>by let ?jD:=hz;exact#[?OU g hP1,?jY hb1]) ?_ ?_
 . rintro i x y zs τ G p hx hy ⟨g,Eu,⟨ts,rfl,mG,hts⟩,o1,o2,rfl⟩ hp;have hi:i<sp.length:=?q7
   have hz:=IV hnl hi
   have hxv:x=?e (?LQ):=by
    ext zD
   have hyv:y=?e (ns.getD i 0):=by
    rw[qb0,qa0 (show ?tQ by omega)]at hy;rw[qa1,qa0 (show ?tQ by omega)];simpa using hy.symm
   subst hxv hyv;have ct:=CV hz;generalize ?LQ=sv at hz ct;generalize ns.getD i 0=nv at hz ct;have gp:?h G (?y9):=?eL;have hp1:(?y9) p=?c (?QJ nv):=Ab;generalize ?y9=G1 at gp hp1;have ctl:?xP<=i:=qa5 (MB _) (by rw[qd5];omega);apply(?R6 hp1);ext bS;ext bR
   . have e:¬nv=0:=?Z
     rw[?b4 e]at ct;apply#[_,rfl,_,rfl,?bQ,?v8];have gt:=gp.trans (?y (o:=?QJ nv) ht);have ntD:t≠D:=(Aq (?CQ) ht).symm;have hDt:=gt _ _ Eu;have htt:(?LK) t=?c (?QJ nv):=Ab;generalize ?LK=G2 at gt hDt htt;apply#[hDt,?gH,?UY gt hD,Ab,#[ts++[t],?c1,by rw[ct];simp[mG],λj t' e2=>?_],_,_,rfl];rw[ct];rw[List.getElem?_append]at e2;split at e2
     . rename_i hj
       let#[p',HS,h2',h3']:=hts j t' e2;exact#[p',by rw[?tG];exact HS,by rw[Al h3'];exact gt _ _ h2',h3']
     . rename_i hj
       have hj0:j-ts.length=0:=by
        cases hz:j-ts.length with
        | zero=>rfl
        | succ m=>rw[hz]at e2;simp at e2
       rw[hj0]at e2;have et:t=t':=by simpa using e2
       subst et;apply#[(sv,nv),?_,?_,ntD]
       . rw[?u2,show j-?xP=0 by omega];rfl
       . rw[Al ntD];exact htt
   . have e:nv=0:=?Z
     rw[?cH e]at ct;rw[ct];exact#[?cJ gp,?CQ,#[ts,rfl,mG,λj t z=>let #[p',a1,a2,a3]:=hts j t z;#[p',a1,gp _ _ a2,a3]],_,_,rfl]
 . rintro zs τ G ⟨g,Eu,⟨ts,rfl,mG,hts⟩,_⟩;rw[←hzl,qd2]at mG hts;apply#[D,ts,cK (Dh (?nH)),rfl,Eu,(by rw[Kn];exact mG),λi t e2=>?_,?fI]
   . let#[p,HS,h2',_]:=hts i t e2;apply#[(?m p.1,?e p.2),?_,h2'];unfold cK;rw[qb0,HS];rfl
   . apply kq E _ ((?cU g).free hE) ((?cU g).trans (?iN)) ?_;rw[Ab,Pb _ [] (by rw[qo9];exact Lr.mpr (Az4 hzn)),qo9]
noncomputable abbrev Gh:Stmt:=Fd ?LY 1
def AS:?v ?eN ?eN (Ar Gh):=Bi
def Sz[?x](F:E9 K ?c7 ?v4 Gh f fd)[?w](Ve:Has P w K mg ?d ?p7 ?y8 2 (Zt K))(Y8:Has P w K mg ?d ?JC [?c7] 1 (bY K)):?OV ?eN ?jN:=by
 apply ?PB AS;let#[p,u,C,r,b,sv,n,W,s,N,t,rfl,hC,x,hu,m1,m2,hn,hW,k]:=h;ext N3
 have hc:?FB:=by
  rcases hC with rfl | rfl
  . ext O0
  . ext NV
 apply#[_,(Ac (?VH (?T6 Ve (Aa ?V ?a0)))
  (?WK (?T6 Ve (?OP ?V (An Y8 hr ?a0))))),?_]
 ext I
 apply#[_,rfl,p,C,dx,fs,_,rfl,hp,?bN,?fN,l1,_,rfl,r,u,as,n,W,s.1,t,rfl,xa,hu,m1,hn,hW,λD1 zH H1 D7 s1 x1 n1=>?_];have hp1:=?kA;apply#[_,rfl,p,C,dx,fs,rfl,hp1,?bN,?fN,O9m,?_];have sx1:?bF p H ?kL:=?V4 s1;have Au8:?bF p H1 ?kL:=?g2
 have hu1:Rep K ?kL u (VB t):=by
  apply Rep.t #[λb xs e=>?_,λb o u e=>?_] (by cases t<;>rfl) hu
  . ext OB
  . ext OB
 have hl1:?B9=fs.length:=Nu l1;have hp2:?kL p=?UD C (?QV fs):=Ab;have x2:=x1.x hp1 Au8;have VE:=xb.x hp sx1
 have xG:∀a,?SO ?kL->?iO:=λa e=>by
  by_cases hap:a=p
  . rw[hap,Ab]at e;cases e
  . rw[Al hap]at e;exact ?m1 e
 generalize hH2:?LW=H2 at sx1 Au8 hu1 hp2 x2 VE xG;apply#[_,rfl,p,C,dx,_,_,rfl,hp2,?bN,?g3,(by ext sO;exact l2),_,rfl,u,t,rfl,hu1,λu2 H3 s3 hu3=>?_];apply#[b,u2,bs,n,n,s.2,tnA t,rfl,?x6 s3,hu3,m2,hn,hn,λD2 bs2 H4 Nd s4 x4 n4=>?_];have qE:=?oE;have R7:=qE _ _ hp2;apply#[_,rfl,p,C,dx,_,rfl,R7,?bN,?g3,O9m,?_];have hl2:(?K ?fQ (?bY D2) (?I1)).length=?B9:=Nu (x:=?p0) (by ext sO;exact l2);have sx5:?bF p H4 (upd H4 p (?N C dx (?K ?fQ (?d4) (?QV fs)))):=?g2;have f2:?DL:=xG _ (?tD Nd);have dne:D1≠D2:=λz=>?BJ ?KX;ext O5;apply k D1 D2 _ (?cZ (sx1.trans (?eF qE))) D7 f2 #[#[dx,_,Ab,?_,?_,?_,?iL,O9m],#[zH,(x2.same qE).x R7 sx5,?cC],#[bs2,x4.x R7 sx5,?cC],dne,nN _ D7,nN _ f2,?pP]
 . rw[As,?q6,As,?c9]
 . rw[As,?c9]
 . ext NB;exact l3
 . rw[As,?eR,As,?eR];exact l4 m hm
 . have h1:=(x2.same s3).there.2 a ha;let ?BB:=n1 a ha;apply#[h3,λz=>h1 ?KX,?_];rcases h2 with h2 | h2
   . exact(na a h2).2.2
   . exact nN a h2
 . let ?BB:=n4 a ha;apply#[?nG,h3,?_]
   . rcases h2 with h2 | h2
     . exact ?tI a h2 (z▸D7)
     . exact ?BJ (z▸h2)
   . rcases h2 with h2 | h2
     . exact(nb a h2).2.2
     . exact nN a (xG _ (?tD h2))
 . by_cases hap:a=p
   . rw[hap,Ab]at z;cases z
   . rw[Al hap]at z;exact x.nn a ha (xG _ (qE.free z))
noncomputable abbrev My:Stmt:=Fd ?k9 0
def Zz:?v ?rH ?rH (Ar My):=Bi
def e9[?x](F:E9 K ?cK ?EE My f fd)[?w][?NI][?ON]:?OV ?rH (gD K Ag Af Aj):=by
 apply ?PB Zz;let#[H0,p,dx,v,n,w,M,rfl,s0,fp,hp,hv,hn,hw,k]:=h;let(?S8 hq0 _):=?j4
 apply#[_,(Ac (?VH ?o)
  (Ac (?VH ?p)
  (Ac (?VH (?X5 (Aa (?T6 S5 (?WZ (?OY ?a0))) (?WZ (?T6 S5 (Aa (?OY ?a0) Ad))))))
  (Ac (?VH (?X5 (?OP (?T6 S5 ?aF) (?T6 S5 ?aF))))
  (?WK ?dZ))))),?_]
 ext I
 have mkL:∀{G1 G2 G3:Hp}{D1 D2 L EW:Addr}{zH lC:?pH}{m:Nat}{fs:?uX}{G4:Hp}{N:Addr->Prop},zH.length=m->?dC G1 G2 D1 zH m (?QC 0)->lC.length=m->?dC G2 G3 D2 lC m (?QC 0)->?W0 G3 L->?h G3 (?R0 L)->fs=?K ?fQ (?d4) (?QV [])->G4=upd (upd (?R0 L) L (?N Ag EW (?QV []))) L (?N Ag EW fs)->(∀a,N a->G1 a≠none) →
  ?HN/\LX G4 Ag L D1 D2 ?k m m ?e6 N:=by
  intro G1 G2 G3 D1 D2 L EW zH lC m fs G4 N hl1 R1 hl2 R2 nL sN hfs hG4 hN;have hL4:G4 L=?c (?N Ag EW fs):=by rw[hG4];exact Ab
  have st:?HN:=λa o e=>by
   rw[hG4,Al (Aq e nL),Al (Aq e nL)];exact sN _ _ e
  clear hG4
  have x1:TA G4 D1 zH m m ?gT:=((?EV).same (?qI st)).congr λi c _ _=>by
   by_cases z:i=c
   . subst z;simp[Lat.one]
   . ext OC
  have x2:TA G4 D2 lC m m ?gT:=((TA.of R2 hl2).same st).congr λi c _ _=>by
   by_cases z:i=c
   . subst z;simp[Lat.one]
   . ext OC
  have t1:=(?EV).there;have f2:∀a,?SO G2->?GL:=?SC ?uC;have nN:∀a,?GL->?rS:=?SU hN;apply#[st,#[EW,fs,hL4,?y7,?y7,?y7,?iL,?_],#[zH,x1,?cC],#[lC,x2,?cC],λz=>t1.1 ?JP,nN _ ?qW,nN _ (f2 _ ?oV),λa ha z=>hN a ha (f2 _ (?m9 (st.free z)))]
  . ext MT
  . ext NC
  . let ?yN:=?yD;let ?wR:=R1.row i _ ?q8;exact#[z2,λz=>t1.2 _ ha ?JP,nN _ z1]
  . let ?yN:=?yD;let ?wR:=R2.row i _ ?q8;exact#[λz=>t1.1 ?H7,z2,nN _ (f2 _ z1)]
 apply#[_,rfl,_,rfl,p,Aj,dx,_,rfl,hp,?J,?f8,?c1,?_];apply Ew (λσ' H'=>?sF/\?U2 H (?K ?a6 (?hL) [])=H') ?_ ?dX;ext eE;apply ?OO (λσ' H'=>?sF/\∃fs,fs=?K ?bB ?GZ (?K ?a6 (?hL) [])/\?vF/\?BS)
 . apply#[_,rfl,_,rfl,p,Aj,dx,_,rfl,Ab,?J,?s1,by simp[putF],?_];exact ?OQ #[rfl,_,rfl,Ab,?cZ ?k3]
 ext zZ;let#[fs2,hf2,hp2,sx2]:=fT;have l2:fs2.length<=2:=by rw[hf2];exact ?GN
 have s02:?h H0 H2:=?AV s0 fp;apply ?OO (λσ' H'=>?sF/\∃(L O1 O2:Addr) (fs:?uX),fs=?K ?f9 (?f L) fs2/\?vF/\?bF p H2 H'/\Kp H2 H'/\p≠L/\?W0 H2 L/\?W0 H2 O1/\?W0 H2 O2/\?TV H' (?n2))
 . apply#[_,rfl,ta,us,rfl,?m (s02.seq hq0),n,(by rw[Ys]<;>rfl),O9m,λO1 os1 G1 hl1 R1=>?_];apply#[_,rfl,ta,us,rfl,?m ((?B0 R1.same).seq hq0),n,(by rw[Ys]<;>rfl),O9m,λO2 os2 G2 hl2 R2=>?_];have s2:=R1.same.trans ?gJ;intro L dl nL ndl Bl5;have sN:?QM L L:=?CM nL;apply#[L,dl,Ag,?f O1,?f O2,rfl,?dN,Ab,?I5];let ?KW:=?Q9 nL;have R7:=st _ _ (?Q6 hp2);have WN:p≠L:=Aq (?Q6 hp2) nL;apply(?Q5 _ ?fW);exact ?OQ #[rfl,L,O1,O2,_,rfl,Ab,?V4 (?bO st),?TX (?bO st),WN,?jV nL,?qW,?uC ?oV,lx.x R7 WN ?k3 ?c8]
 apply F7 λH3 fT=>?_;intro sq;let#[L,O1,O2,ZD,hf3,hp3,sx3,kp3,WN,nL,n1,n2,lx3]:=fT;have l3:ZD.length<=3:=by rw[hf3];exact qa5 ?g7 (qj0 l2)
 have UX:?h H0 H3:=sx3.same s02 fp;apply ?OO (λσ' H'=>?sF/\∃(R O3 O4:Addr) (fs:?uX),fs=?K ?h0 (?f R) ZD/\?vF/\?EG/\?B8/\p≠R/\?W0 H3 R/\?W0 H3 O3/\?W0 H3 O4/\?TV H' (λa=>?CD)/\LX H' Ag R O3 O4 ?k w w ?e6 (?n2))
 . apply#[_,rfl,w,rfl,O9m,λO1' os1 G1 hl1 R1=>?_];apply#[_,rfl,w,rfl,O9m,λO2' os2 G2 hl2 R2=>?_];have s2:=R1.same.trans ?gJ;intro R dl nR ndl Bl5;have sN:?QM R R:=?CM nR;apply#[R,dl,Ag,?f O1',?f O2',rfl,?dN,Ab,?I5];let ?KW:=?Q9 nR;have R7:=st _ _ (?Q6 hp3);have yO:p≠R:=Aq (?Q6 hp3) nR;have n4:?W0 H3 O2':=?uC ?oV;apply(?Q5 _ ?iG)
   have y1:?TV G4 (λa=>a=O1'\/a=O2'):=lx3.more (?bO st) (λa ha=>?B (by rcases ha with rfl | rfl;exact R1.free;exact n4)) λa ha=>by
    rcases ha with rfl | rfl
    . let ?hX:=lx.rw;exact ?H1
    . let ?hX:=lx.bk;exact ?H1
   exact ?OQ #[rfl,R,O1',O2',_,rfl,Ab,?V4 (?bO st),?TX (?bO st),yO,?jV nR,?qW,n4,y1.x R7 WN ?k3 ?c8,lx.x R7 yO ?k3 ?c8]
 apply F7 λH4 fT=>?_;intro sq;let#[R,O3,O4,fs4,hf4,R7,yG,kp4,yO,nR,n3,n4,lx4,ly4]:=fT;have l4:fs4.length<=4:=by rw[hf4];exact qa5 ?g7 (qj0 l3)
 have NU:?L5:=yG.same UX fp;apply#[?bL,λnm hnm=>?_];have sn:?h H4 (?B1):=?y hnm;have Ah8:upd H4 nm ?hF nm=?pM:=Ab;have HN:=sn _ _ R7;generalize ?B1=H5 at sn Ah8 HN;apply#[_,rfl,p,Aj,dx,_,rfl,HN,?J,?eX,O9m,?_]
 have ex:∀a,?AL->H5 a≠none:=λa ha=>by
  ext zY
  . rw[Ah8];ext lV
  . let ?hX:=ly4.rw;exact ?KD
  . let ?hX:=ly4.bk;exact ?KD
 have z1:?TV H5 (λa=>?AL):=lx4.more sn (λa ha=>ha.elim (λe=>?B (e▸hnm)) ?m) ex;have z2:LX H5 Ag R O3 O4 ?k w w ?e6 ?sG:=ly4.more sn (λa ha=>?B (ha▸hnm)) λa ha=>ex a (?wD);have fX:?bF p H5 (?QZ p):=?g2;have s06:?h H0 (?QZ p):=fX.same (?JN sn) fp;have g2:∀a,?LX->?r6:=?SC s02.free;have g3:∀a,?A8->?r6:=?GE;have npn:p≠nm:=Aq R7 hnm;have LR:L≠R:=λz=>by let ?L2:=lx3.ob;rw[z,nR]at q;cases q
 apply k L R nm _ #[#[?hL,dx,_,Ab,?_,?_,?_,?_,?_,?iL,?_,λM' e=>by cases e;exact ?F (λa o e=>by rw[v6 (Aq e (?DG))];exact s06 _ _ e) hv],#[O1,O2,O3,O4,z1.x HN WN fX ?c8,z2.x HN yO fX ?c8,g2 _ n1,g2 _ n2,g3 _ n3,g3 _ n4],by rw[Al ?IA];exact Ah8,s06,#[fp,g2 _ nL,g3 _ nR,?DG],?AW,#[hn,hw]]
 . rw[hf4,hf3,hf2];ext aL
 . rw[hf4,hf3,hf2];ext aL
 . rw[hf4,hf3];ext aL
 . rw[hf4];ext aL
 . ext aL
 . rw[hf4,hf3,hf2]
   iterate 5 ext NO
   rfl
 . exact qa5 ?g7 O9m
noncomputable abbrev Tm:Stmt:=top 71
def Ey:?v [?X,?vQ,?g4,"parts",?sZ,?qM,?nJ,?oF,?cG,?b7] ?xH (Ar Tm):=Bi
def GR[?x](F:E9 K ?m7 ?m7 Tm f fd)[?w][?z8]:?OV ?xH (Xs K):=by
 apply ?PB Ey;let#[a,b,xs,us,ls,rfl,hL,Da,hb,hB,hok,kq]:=h;let#[_,xu,z,hq,r]:=?nM
 apply#[_,(Ac (lU (N':=[?rN]) (cap:=?k5) (i:=2) ?eP ?g (by ext OK) ?g ?aB ?rA (?T5 Ae1) ?aI (λ_ _ _ _=>G9))
  (Ac (B6 qb8 rfl (?P6 Cd ?o) (?OT 3 ?eP) (Ai (B6 qb8 rfl (?P6 Cd ?r) (?UB (?OT 4 ?eP) (Bl (?OT 5 ?eP) (Bl (?OT 6 ?eP) (Bl (?OT 7 ?eP) Dl)))) (?WH (?P0 Fb ?D) (Ai (Qt (B6 qb8 rfl (Lp ?Y) (?OS (?TM 8 ?eP) (?TM 9 ?eP)) (Ai (Lo (?T6 Vg (?OP (?VJ ?p ?c4) (?X7 ?bH ?aW))) (Lq ?p ?c4 Ga))))))))))
  ?jE)),?_]
 ext I
 cases z;have xul:xu.length=xs.length:=?pF
 apply ?OO (λσ' H'=>Ko λ ?e3 ?i4=>C9 (σ'=[?j,?z,?H,none,none,none,none,none,none,none]) ?a7 ?hJ ?EM (Gg H H' ws (?dB ?gA [])))
 . ext sN
   let Bz8:?aK:=λi ws τ G=>By ?f7 (G D=?fO) (Gg H G ws (?dB i [])) ?jK
   apply Cs (K:=K) (a:=a) (xs:=xu) Bz8
    #[?f2,Ab,#[rfl,λi v e=>?x8],?k,rfl] (λi ws τ G _ hz=>by let ?jD:=hz;exact ?jY hq) ?_ ?_
   . rintro i x ws τ G hx C6;ext lU;intro g Eu dd o Er;have hi:i<xu.length:=?iM;have wl:ws.length=i:=by have:=dd.1;rwa [qj9]at this
     apply ?fI;have g1:?h G (?GM):=?iN;apply#[?G5,?dE,?I7 hD,Ab,?_,_,rfl];rw[qq9];apply Gg.keep (H:=?GM) ((dd.same g1).snoc (?rB hE) Ab) λc kvs _ e=>?_;ext iY
     . exact e
     . rw[z,?G5]at e;cases e
   . rintro ws τ G ⟨g,Eu,dd,_⟩;rw[xul]at dd;exact ?OQ #[D,ws,rfl,g,hD,Eu,dd]
 apply qK λD ws H1 s1 nD hD dd=>?_;intro sq;apply ?OO (λσ' H'=>vD λ ?i4 ?CP=>By (σ'=?D9) ?a7 ?EM (Gg H H' ws (?uL)))
 . apply(?QX b (?VB (?hK)))
   let Bz7:?aQ:=λi σ G=>vD λ ?i4 ?CP=>C9 (σ=?D9) ?f7 (G D=?fO) (Gg H G ws (?p9)) (Hl ?gA (?p9))
   apply ?eU (K:=K) (a:=b) (xs:=us) Bz7
    #[ws,_,_,_,_,_,_,_,rfl,s1,hD,dd,Hl.first _] (λi σ G _ hz=>?TK ?IU hb) ?_ ?_
   . rintro i v σ G hv C6
     ext U
     revert σ;ext NQ;ext iX;have h0:=hB.1;ext NX
     let ?KP:=?CH;have pok:=hok ps (qb1 hps);have pl:=rP.len
     have etk:Cn ?gA (ls.take ?cT)=Kq (?p9) ps:=by
      unfold Cn;rw[qe7,hps,qn1];rfl
     generalize ?p9=lf at dd EE etk;apply(?QX pa #[_,?J5])
     let Bz6:?aQ:=λj σ G=>zR λ ?i4 (o2 o3 o4 o5 o6 o7:?bA)=>C9 (σ=[?j,?z,?H,rS pa,o2,o3,o4,o5,o6,o7]) ?f7 (G D=?fO) (Gg H G ws (?nR)) (Hl ?gA (?nR))
     apply ?eU (K:=K) (a:=pa) (xs:=pu) Bz6
      ?I0 (?SB #[_,_,_,_,_,_,_,_,g,_] ?J5) ?_ ?_
     . rintro j v σ G hv C6
       ext U
       revert σ;ext NY;let#[p,hp,pv]:=rP.get hv;let#[t,c1,c2,c3,rfl,et,e1,e2,e3,nec]:=pv.same g;have pk:=pok p (qb1 hp)
       have ejk:Kq lf (ps.take (j+1))=Q4 (?nR) p:=by
        unfold Kq;rw[qe7,hp,qn1];rfl
       generalize ?nR=lg at dd EE ejk
       have e20:∃kvs,H c2=?c (.dK kvs):=by
        let#[t',_,c2',_,q1,q2,_,q4,_]:=pv;cases q1;have:=g _ _ q2;rw[et]at this;ext sR;ext sR;injection this with _ this;injection this with _ this;ext sR;ext sR;exact#[_,by rw[this];exact q4]
       ext zA;ext bS;ext bR
       . have h1:p.1=1:=?Z
         have eP:Q4 lg p=p.2.2.1.foldl (lift1 ?kV) lg:=?xO;rw[eP]at ejk;have nDc:c2≠D:=λz=>by rw[z,Eu]at e2;cases e2
         apply ?B #[c2,?rE,e2,?f3];apply(?S9 c2 ?rE)
         let Bz5:?aQ:=λm σ G2=>Nl λ ?i4 (o6 o7:?bA)=>Hz (σ=[?j,?z,?H,rS pa,?wO,?oN,?r0,?nO,o6,o7]) (G2 c2=?c (?QW (?rE))) (G2 D=?fO) (Gg H G2 ws (?rK)) (Hl ?gA (?rK)) ((∀c q,c≠c2->?gW->?mH->G2 c=?cV))
         apply Sa (d:=c2) (o:=o) (kvs:=?rE) Bz5
          #[ws,_,_,rfl,Ab,by rw[Al nDc.symm];exact Eu,?_,EE,λc q n1 _ e=>?LV] (?PI #[_,_,_,_,e,_]) ?_ ?_
         . apply ?L9;ext iY
           . exact e
           . let#[_,q]:=e20;rw[z,q]at e0;cases e0
         . rintro m kk x σ G2 pp hx C6 hpp
           ext U
           ext NT;ext gX;let#[x0,x1]:=pk.gk q ?gN
           have emk:?ST (m+1)=lift1 ?kV (?rK) q:=by
            rw[qe7,hq,qn1];rfl
           generalize ?rK=lh at dd EE emk;have wl:ws.length=xs.length:=dd.1.trans EE.1;have NO:?h G2 (upd G2 pp ?o8):=?y hpp;ext O3;obtain⟨v,hv⟩:∃v,ws[?dT]?=?bE:=?fU
           let#[c,rfl,nc,hc]:=?E6
           have hat:BP ws q.1=?QD c:=by
            have:=Bo hv
            ext zG
           have nc3:c3≠D:=λz=>by rw[z,Eu]at e3;cases e3
           have e33:=NO _ _ (hk _ _ nec.symm nc3 e3);have lc:=EE.at ?dT;apply#[_,rfl,_,rfl,D,ws,_,_,rfl,rfl,?OU NO HQ,hat,_,rfl,_,rfl,q.2,c3,?kV,rfl,e33,?RJ pk.fl.len,pk.mul q ?gN,?D3];apply#[c,T,_,_,rfl,?Q3 s4 (NO _ _ hc),hT,?RJ lc.len,qa5 (pk.fl.times q.2).len ?P,λE G5 nE s5 hE=>?_];have yI:=?QH ?iK s5;apply#[_,rfl,_,rfl,D,ws,_,_,rfl,rfl,?JQ,by rw[wl];have:=Kx (l:=xs.length) (i:=?dT) O9m;ext zG,?_];apply#[_,_,_,rfl,?_,Ab,emk▸ ?_,emk▸EE.lift1 pk.fl q,λd r n1 n2 e=>?_]
           . rw[Al nDc];exact yI _ _ hc2
           . apply Gg.keep (H:=G5) ((dd.same yI).set ?_ hE ?dT) λd kvs _ e=>?_
             . cases e:H E with
               | none=>rfl
               | some r =>
                 have:=(?iK) _ _ (hk E r (Aq ((?iK) _ _ hc2) nE).symm (Aq ((?iK) _ _ HQ) nE).symm (g _ _ e));rw[nE]at this;cases this
             . ext iY
               . exact e
               . rw[z,?JQ]at e;cases e
           . rw[?oZ];exact yI _ _ (hk d r n1 n2 e)
         . rintro σ G2 C6;ext NT;rw[Kn,qd2,←ejk]at dd EE;apply#[hc2,ws,_,_,_,_,_,_,rfl,λc r e=>?_,by rw[Al nDc.symm];exact HQ,?L9,EE]
           . by_cases z:c=c2
             . subst z;have:=g _ _ e;rw[e2]at this;cases this;exact Ab
             . rw[?e4];exact hk c r z (Aq e nD) (g _ _ e)
           . ext iY
             . exact e
             . rw[z,hc2]at e;cases e
       . have h1:¬p.1=1:=?Z
         have eP:Q4 lg p=lg:=?wI;rw[←ejk.trans eP]at dd EE;exact ?I0
     . ext aR;ext NY;rw[pl,qd2,←etk]at dd EE;exact#[ws,_,_,_,_,_,_,_,rfl,g,Eu,dd,EE]
   . ext aR;ext NQ;rw[hB.1,qd2]at dd;exact ?OQ #[ws,_,_,_,_,_,_,_,rfl,g,Eu,dd]
 apply Ar7 λws o1 o2 o3 o4 o5 o6 o7 H2 s2 Nd dd=>?_;intro sq;exact#[_,rfl,kq D ws H2 nD s2 Nd dd]
noncomputable abbrev Wo:Stmt:=top 72
def Ld:?v [?g4,?bU,?d1,?cG,?b7] ?vO (Ar Wo):=Bi
def jO[?x](F:E9 K ?pB ?pB Wo f fd)[?w][?z8]:?OV ?vO (GA K):=by
 apply ?PB Ld;let#[a,b,O,xs,k,wu,lf,c,rfl,ha,dd,sO,nb,hb,hc,hll,Da,hl,kq]:=h;have hwl:wu.length=lf.length:=dd.1
 apply#[_,(Ac (?PH ?s8 G9)
  (Ac (Qt (?X2 (?OS (?TM 3 ?s8) (?TM 4 ?s8)) (Ai (Ao (i:=2) ?s8 (?T6 Vg (?OP ?p (?X7 ?D ?fP)))))))
  ?jE)),?_]
 ext I
 apply ?OO (?VZ [?j,?z,?H,none,none] (?bT=?T9 (?WP 0)))
 . ext zK
 apply Mf λD0 H1 nD s1 D7=>?_;intro sq;have Yp:D0≠b:=λz=>by rw[z,hb]at nD;cases nD
 apply ?OO (λσ' H'=>Nl λ ?hC ?HV=>By (σ'=?GK) (?TS E) ?a7 (?VX E (Iv lf c)))
 . apply ?B #[b,cK c,?hK,?f3];apply#[_,rfl,b,o,cK c,rfl,Ab,?_]
   let Bz4:?aQ:=λi σ G=>Nl λ ?hC ?HV=>Hz (σ=?GK) (E≠b) (?TS E) (G b=?c (.frz o (?OX c))) (G E=?TJ (?WP i)) ((∀d q,d≠b->H d=?cV->G d=?cV))
   apply Sa (d:=b) (o:=o) (kvs:=cK c) Bz4
    #[D0,?k,?k,rfl,Yp,nD,Ab,?JG,λd q n e=>by rw[Al n];exact ?GU] (?PI #[_,_,_,_,_,_,e,_]) ?_ ?_
   . rintro i kk x σ G pp hx C6 hpp
     ext U
     revert σ;ext OE;ext gX;have hqm:=?p4;let#[x0,x1,_]:=Cu (hc.key q hqm);let#[lk,lm]:=hl q hqm;have NO:?h G (upd G pp ?o8):=?y hpp;ext O3;obtain⟨v,hv⟩:∃v,wu[?dT]?=?bE:=?fU
     let#[c1,rfl,_,hc1]:=?E6
     have hat:BP wu q.1=?QD c1:=by
      have:=Bo hv
      ext zG
     have ne1:c1≠b:=Aq hc1 nb;have nea:a≠b:=Aq ha nb;have Br9:=NO _ _ (hk _ _ ne1 (sO _ _ hc1));have haG:=NO _ _ (hk _ _ nea (sO _ _ ha));have hch:ChL xs (k+1) (?WP i):=U8 (λp hp=>(hl p (ql6 hp)).1) (ChL.nil ..);apply#[_,rfl,_,rfl,_,rfl,_,rfl,a,wu,_,_,rfl,rfl,.of haG,hat,q.2,c1,lf.getD ?dT [],rfl,Br9,?RJ lk.ok.len,lm,?D3];apply#[E,T,_,_,rfl,?Q3 s4 (NO _ _ QF),hT,?RJ hch.ok.len,qa5 (lk.ok.times q.2).len ?P,λE2 G5 nE2 s5 hE2=>?_];have yI:=?QH ?iK s5;have GK:=?iK;have neb:E2≠b:=λz=>by rw[z,GK _ _ V6]at nE2;cases nE2
     apply#[E2,_,_,rfl,neb,?_,yI _ _ V6,?_,λd r n e=>yI _ _ (hk d r n e)]
     . cases e:H E2 with
       | none=>rfl
       | some r=>rw[GK _ _ (hk _ _ neb e)]at nE2;cases nE2
     . rw[hE2,JX hq]
   . ext aR;ext OE;rw[Kn,qd2]at QF;apply#[V6,?OQ #[E,o3,o4,rfl,hE0,λd q e=>?_,by rw[Al nE];exact QF]];by_cases z:d=b
     . ext iU
     . rw[?e4];exact hk d q z e
 apply LI λE o3 o4 H2 nE s2 hE=>?_;intro sq;exact#[_,rfl,kq E H2 nE s2 hE]
noncomputable abbrev M1:Stmt:=top 81
def Im:?v [?cI,?dO,?k0,"_law_last","_law_hole"] ?tT (Ar M1):=Bi
def f8[?x](F:E9 K ?mU ?mU M1 f fd)[?w][?zI][?N2]:?OV ?tT (Ur K):=by
 apply ?PB Im;let#[a,D,xs,k,us,ps,O,rfl,hL,hD,rP,hok,kq]:=h;ext dJ
 apply#[_,(Ac (?WU (Dc (C5 (?TA FJ ?p))))
  (Ac (?P8 Im.nd Ak)
  (Ac (B6 qb8 rfl (?P6 Cd ?p) (?OT 4 Im.nd) (Ac (?W8 (?TG Vw ?D) (Ln (Bf Ib (?OY ?hN) Ak ?s) (Lm (?VD Hh (?WZ ?cM)))))
  (Ac (?W8 (?P0 Qv ?cM) (Ln (?P0 Fb ?cM) (Lm (?TR (?P0 Fb ?r) (?P0 Ib ?cM)))))
  (Ac (?WU (?TR (?P0 cC ?r) (?P0 Ib (Bh Eg ?cM ?r))))
  (Ac (?P8 Im.nd ?cM)
  (Ac (?W8 (?VD Fp (?WR ?o ?cM)) (Lm (?VD Fp (?WR ?o ?cM))))
  (Ai (?W8 (?VD Fp (?WR ?hM ?cM)) (Lm (?TR (?P0 Fb ?cM) (Bf (RO (n:=8) On) ?cM G9 ?s)))))))))))
  ?a5))),?_]
 ext I
 apply#[_,rfl,D,us,rfl,hD,_,rfl,?_];ext aY;apply ?P1 [?j,?M,?H,none,none];ext aS;apply ?P1 [?j,?M,?H,iS 1,none];ext aS;apply ?OO (λσ' H'=>Ko λo3 o4=>σ'=[?j,?M,?H,o3,o4]/\?f0)
 . apply(?QX D ?M1)
   apply ?eU (K:=K) (a:=D) (xs:=us) (λi σ G=>Ea λo4=>σ=[?j,?M,?H,?T7 (?lG),o4]/\?x0)
    #[?k,rfl,?jZ H] (λi σ G _ hz=>?TK #[_,_,g] hD) ?_ ?_
   . rintro i v σ G hv C6;revert σ;apply ?lK;intro o4 g Er;ext iX;obtain⟨p,hp⟩:∃p,ps[i]?=?c p:=#[_,qa0 (by have:=rP.1;omega)]
     let(?T4 t):=?IR;have hpm:=qb1 hp;have ho:=hok.one p hpm;let#[l0,l1,l2]:=SW hok.ord (λq hq=>(hok.one q hq).nn) hp;have els:Lx ps ?cT=p.1:=j9 hp;rw[els];have hn1:=ho.n1;have hnn:=ho.nn;ext z9
     . apply(?RF t et);ext aY;apply(?S3 ?d9);ext dI;apply(?QK ?pU ?pU);ext lN;ext eD
     ext eE;ext z9
     . apply(?QK _ _);ext eC;ext NW;apply ?R3 (by simpa using hn1);ext bS;ext bR
       . have h1:?lG=0:=?Z
         ext NW;apply ?R3 (by rw[l1 h1];simp);ext eD
       . ext eD
     ext eE;ext z9
     . ext cD;ext bR
       . have h1:0<?lG:=?Z
         apply#[_,rfl,t,_,_,_,rfl,rfl,?d9,rfl,_,rfl,_,_,rfl,rfl,h1,rfl,_,rfl,?_];apply ?R3 (by show ¬(! ?aJ (?S (p.1%?lG)=?k2))=true;rw[l2 h1];simp);ext eD
       . ext eD
     ext eE;apply ?OO (?VM [?j,?M,?H,?wO,?b6] ?fR)
     . exact#[_,rfl,t,_,_,_,rfl,rfl,?d9,rfl,?jO]
     ext eE;have kD:=?vI;apply ?OO (?VM [?j,?M,?H,?wO,?b6] ?kN)
     . apply#[_,rfl,_,rfl,_,rfl,t,_,_,_,rfl,rfl,?d9,rfl,a,c1,xs,k,_,rfl,kD,e1,ho.lp,λG1 g1=>?d3];ext aY;have et':=?xC;apply#[_,rfl,_,rfl,_,rfl,t,_,_,_,rfl,rfl,.of et',rfl,a,c2,xs,k,_,rfl,?K3,g1 _ _ e2,ho.gg,?EX];ext aY;exact ?OQ #[rfl,?fC]
     ext sP;have et1:=?xC;apply#[_,rfl,_,rfl,_,_,rfl,rfl,_,rfl,t,_,_,_,rfl,rfl,?uZ,rfl,a,c3,xs,k+1,_,rfl,?K3,g1 _ _ e3,ho.fl,?EX];ext aY;have et2:=g2 _ _ et1;have HX:=?fC;apply#[_,rfl,t,_,_,_,rfl,rfl,.of et2,rfl,rfl,_,rfl,?_];ext bR
     . have h1:p.1=0:=?Z
       apply#[_,rfl,t,_,_,_,rfl,rfl,.of et2,rfl,?fI];have g3:=?y (o:=.dK []) hE;have e33:=g3 _ _ (HX _ _ e3);rw[ho.no h1]at e33;apply#[c3,E,[],[],rfl,rfl,?m e33,?m Ab,_,rfl,?_];ext aY;exact#[_,rfl,?QH ?vK g3]
     . exact#[_,rfl,?vK]
   . ext aR;apply ?lK;intro o4 g Er;exact ?OQ #[_,_,rfl,g]
 apply QK λo3 o4 G g=>?_;intro sq;exact kq G g
noncomputable abbrev Oy:Stmt:=top 87
def Ec:?v [?D4,?nX,?JM,?gU,?l5,?kW,?KT] ?uV (Ar Oy):=Bi
def AW[?x](F:E9 K ?q0 ?q0 Oy f fd)[?w](Nc:Has P w K mg ?d ?mG ?vU 2 (P0 K))(T8:Has P w K mg ?d ?rW ?xA 1 (Ut K))[?N9]:?OV ?uV (Sx K):=by
 apply ?PB Ec;let#[a,ns,kind,most,rfl,hS,hl,hm0,hm1,k]:=h;ext dJ
 apply#[_,(Ac (?P8 ?fG Ak)
  (Ac (?TN (?VS ?l) (?P8 ?fG (Nw Je Ak)))
  (Ac (?TN (?VS ?l) (?P8 ?fG (?X0 Ak)))
  (Ac (?PG ?fG ?dZ)
  (Ac (B6 qb8 rfl (?P6 Cd ?o) (?OT 5 ?fG) (Ac (?WL ?fG (?T6 Nc (Aa ?D (Aa (An T8 hr (?X3 ?r (?X0 Ak))) ?eS))))
  (?WH (Bf LU (?OY (?VI ?Y)) ?p ?s) (Ai (?PG ?fG ?Y)))))
  (Ai (Bb (B8 (N':=[?jA,?gU,?l5]) (cap:=[none,?c 3,?c 4]) ?g ?aB (?P6 Cd ?D) (?T5 Ad8) ?aI (?W9 (Cg (?WY L1) ?g ?s5 Ig (?VI (B8 (N':=[?wV,?l5]) (cap:=[none,?oP]) ?g ?aB (?P6 Cd (?T6 Id ?c0)) (?T5 Ad7) ?aI (λ_ _ _ _=>(G6 (K:=K) qd7 PySem.F.slot_list_index PySem.F.type_list_index (?P6 oM On) ?o ?aX)))))))))))))),?_]
 ext I
 apply ?P1 [?o0,?j,?pW,iS 0,none,none,none];ext aS;apply Am (?PK ?j) ?_ λA08=>?_;ext a8
 . ext MX
   . exact#[_,rfl,A08 _ _ #[-1,rfl,rfl,?E]]
   . exact A08 _ _ #[0,rfl,rfl,?E]
 apply qL λBv7 hf0=>?_;intro sq;apply ?VN (?PK ?j);ext a8
 . ext MX
   . apply#[_,rfl,_,_,rfl,rfl,?gG,_,_,rfl,rfl,(?PC 19),_,_,rfl,rfl,?x9];have:kind / 18%19<19:=?r8;omega
   . exact ?Q7 #[Bv7,rfl,rfl,hf0]
 apply qL λfam hf=>?_;intro sq;have l1:0<=kind / 3%6:=?yV;have l2:kind / 3%6<6:=?r8;apply#[?bL,λW0 hW0=>?_];have s0:?h H (upd H W0 ?hF):=?y hW0
 apply#[_,rfl,a,rfl,#[_,s0.seq hS],?eU (K:=K) (a:=a) (xs:=?pS)
  (λj σ H2=>Ye λ(W:Addr) (wu:?eB) (ws:LLInt) (o5 o6:?bA)=>Nm (σ=[?o0,?j,?pW,?bX,rS W,o5,o6]) ?g9 (?TS W) (H2 W=?TC wu) (?d2 K H2 wu (?hH)) (mV fam ws) ((ws.length:Int)<=most))
  #[W0,[],[],?k,?k,rfl,s0,hW0,Ab,rfl,mV.nil,by simpa using hm0] (λj σ H2 _ hz=>by let#[_,_,_,_,_,_,s2,_]:=hz;exact ?mA hS) ?_ ?_]
 . rintro j x σ H2 hx C6
   ext U
   ext NA;have hjn:j<ns.length:=?q7
   have hxv:x=?e ns[j]:=by
    rw[qb0,qa0 hjn]at hx;simpa using hx.symm
   subst hxv;apply#[_,rfl,_,rfl,_,rfl,_,rfl,_,_,rfl,rfl,?gG,_,_,rfl,rfl,(?PC 6),_,_,rfl,rfl,?_];apply#[_,_,_,rfl,O9m,O9m,O9m,λv H3 w s3 tv hw=>?_];ext lZ;apply#[W,wu,v,ws,w,fam,rfl,?QS hW2,?b2 s3 rW,tv,hw,O9m,λM mu H4 hM s4 hM4 rM=>?_];have qE:=?oE;have hMH:?KG:=(?dU).free hM;have mul:mu.length=(?MG).length:=?FM
   apply#[_,rfl,M,_,rfl,?m (.of hM4),_,rfl,_,_,rfl,rfl,_,rfl,?_];ext bR
   . have h2:(mu.length:Int)<=most:=?Z
     exact#[_,rfl,M,mu,?MG,_,_,rfl,?bO qE,hMH,hM4,rM,aP hO hw,O9m]
   . exact#[W,wu,ws,_,_,rfl,?bO qE,hW,qE _ _ hW2,?b2 qE rW,hO,hwl]
 . rintro σ H2 C6;ext NA;have wul:wu.length=ws.length:=by have:=rW.length;ext aM
   apply(?RO W (?VB hW2));have hDH:?v3:=?jV hD
   let Bz3:?aK:=λi ys τ H1=>By (?h H2 H1) ?i6 (?d2 K H1 ys ((?HW ?xF).map tI)) (?PV [o,?bX,rS W])
   apply Cs (K:=K) (a:=W) (xs:=wu) Bz3
    ?hO (λi ys τ H1 _ hz=>by let ?l4:=hz;exact ?OU s1 hW2) ?_ ?_
   . ext sM;intro s1 D7 r1 o Er;have hi:i<wu.length:=?iM;have hil:i<ws.length:=O9m
     have hix:(?hH)[i]?=?c (tI ws[i]):=by rw[qb0,qa0 hil];rfl
     let ?tW:=rW.get hix;rw[hx]at hx';cases hx';let#[hwi,hfi]:=hO.mem (qe4 hil);generalize hwe:ws[i]=w at tx hwi hfi;apply#[_,rfl,_,rfl,x,w,fam,rfl,?r3 s1 tx,hwi,λp fu H3 hp s3 hp3 r3=>?_];have ful:fu.length=?L4:=by have:=r3.length;ext aM
     have vQ:=?t1;apply#[p,rfl,(?VB hp3),λD2 Nd=>?_]
     let Bz2:?aK:=λm zs τ H4=>By (?h H3 H4) (H4 D2=?oT) (zs=((?rC).take m).map (λf=>?S ?MK)) (?PV [o,rS W])
     apply Cs (K:=K) (a:=p) (xs:=fu) Bz2
      #[?y Nd,Ab,rfl,?k,rfl] (λm zs τ H4 _ hz=>by let#[s4,_]:=hz;exact ?OU s4 hp3) ?_ ?_
     . rintro m y zs τ H4 hy C6;ext lU;intro s4 HR hzs o Er;have hm:?BK:=?sX;have hmf:m<?L4:=O9m
       have hmy:(?GH tI)[m]?=?c (tI ?m2):=?AU
       let ?FI:=r3.get hmy;rw[hy]at hy';cases hy';have hfm:?m2∈ws:=hfi _ (qe4 _);have GK:=vQ.trans s4;have rw4:Rep K H4 (?f W) (?n (?hH)):=#[W,wu,rfl,?OU GK hW2,?b2 GK rW]
       have hfl:=(K8 hwi)
       have hzl:zs.length<=4:=by
        rw[hzs,qa4,qd5];have:=hfl.2;have:=hfl.1;split at this<;>omega
       apply#[_,rfl,?m #[rfl,_,?OU GK hW2],_,rfl,?hH,y,tI ?m2,EO ws ?m2,rfl,rw4,?r3 s4 ty,(by have:=Rf ws;omega),kI hfm,?_];apply#[HR,?dE,s4.turn Nd,Ab,?_,_,rfl];rw[qe7,?tO,qb4,hzs];rfl
     . rintro zs τ H4 ⟨s4,HR,hzs,_⟩;rw[ful,qd2]at hzs;have GK:=vQ.trans s4;apply#[D2,_,rfl,?m #[.of HR,?wA]];have s5:?h H4 (upd H4 T (?C zs)):=?yC;have hD5:=(?q1 (s4.trans s5)) _ _ D7
       have t5:TI K (upd H4 T (?C zs)) (?f T) (?yE):=by
        apply TI.mk (.of ?_);rw[qk5,Ab,hzs];rfl
       have hyl:ys.length=i:=by have:=r1.length;simp at this;omega
       apply#[hD5,?dE,(GK.trans s5).turn hD,Ab,?_,_,rfl]
       have e2:(ws.take ?cT).map (?xF)=?HW (?xF)++[?yE]:=by
        rw[qe7,qa0 hil,hwe,qb4];rfl
       rw[e2];exact O8 hD5 (?b2 (?q1 (s4.trans s5)) r1) t5
   . rintro ys τ H1 ⟨s1,D7,r1,_⟩;rw[wul,qd2]at r1;exact k D ys H1 (Os ws fam) hDH (?bO s1) D7 r1 (AR hO) (by unfold Os;rw[qa4];exact hwl)
noncomputable abbrev Ll:Stmt:=top 89
def Hq:?v [?cI,?dO,?k0,?h4,?vM,?qN,?rO,?CR] ?yJ (Ar Ll):=Bi
def Yn[?x](F:E9 K ?nB ?nB Ll f fd)[?w][?N8][?N2][?N4][?zI]:?OV ?yJ (bW K):=by
 apply ?PB Hq;let#[a,hd,b,d,t,N,D,O,xs,k,us,hs,c,m,rfl,hL,hsh,Da,#[XD,Ct1],rP,pbs,#[hb,hc],hd0,ht,hN,hD,hro,kq]:=h;ext dJ;have h4:=Rt hsh;have ul:=rP.1;have rN:Rep K H (?mL) (?R7 ?n):=#[N,_,rfl,.of hN,?kR]
 have rd:Rep K H (?f d) (?R7 ?n):=#[d,_,rfl,.of hd0,?kR]
 apply#[_,(Ac (?W8 (?TG Vw ?a1) (Lm (Bf Ib (?OY ?cF) Ak ?s)))
  (Ac (?VR ?bW (Lm (Bf (?P6 wY On) ?bW ?D ?s)))
  (Ac (?WU (Dc (C5 (?WG (?VI (B8 (N':=[?j5]) (cap:=?k5) ?g ?aB (?P6 Cd ?bW) (?T5 Ad6) ?aI (?P3 Hh ?aX)))))))
  (Ac (Bx (?VD Fp (?WR ?hM ?bW)) ?a5 Bj)
  (Ac (?WL Hq.nd (?T6 Gm (?OP ?l ?bW)))
  (Ac (B6 qb8 rfl (?PJ ?hV) (?OT 7 Hq.nd) (Ai (?WL Hq.nd (?T6 Po (Aa ?Y (?OP (?VJ ?D ?aW) (?WS ?p)))))))
  (?VG (Kv (Ad0 (n:=8) On) ?Y ?r ?s)))))))),?_]
 ext I
 ext N0
 . apply(?RF t ht);ext lN;apply(?S3 ?m5);ext dI;ext eD
 ext aS;ext N0
 . apply#[_,rfl,t,_,_,_,rfl,rfl,?m5,rfl,?mL,?eM,_,rfl,?uM,rN,_,rfl,?_];ext lN;apply#[_,rfl,t,_,_,_,rfl,rfl,?m5,rfl,_,rfl,_,_,rN,rd,?_,_,rfl,?_]
   . show ?R7 deps+1<=8;rw[Oa];decide
   rw[Re];ext aY;ext eD
 ext aS;ext MY
 . apply#[_,rfl,t,_,_,_,rfl,rfl,?m5,rfl,N,rfl,(?VB hN),?fI]
   let Bz1:?aK:=λi ys τ G=>By ?f7 (G E=?qH) (?QP i) ?jK
   apply Cs (K:=K) (a:=N) (xs:=?yH) Bz1
    #[?iN,Ab,rfl,?k,rfl] (?W4 hN) ?_ ?_
   . rintro i v ys τ G hv C6;ext lU;intro g QF yl o Er;ext iX;rw[qa4,qa4]at hi;let#[x,_,rfl]:=qd0.mp (qb1 hv);apply#[_,rfl,?e _,?e _,rfl,rfl,QF,?cQ (by rw[yl,qa4,qj9];omega),g.turn hE,Ab,?_,_,rfl];rw[qq9,qb4,yl];rfl
   . rintro ys τ G ⟨g,QF,yl,_⟩;apply#[E,?GW,rfl,.of (by rw[QF,yl]),_,rfl,?_];rw[show(?GW).all id=true from qd3.mpr λx hx=>(List.mem_replicate.mp hx).2];ext aY;exact ?OQ #[rfl,g]
 ext lQ;ext MY
 . apply#[_,rfl,_,rfl,_,_,rfl,rfl,_,rfl,t,_,_,_,rfl,rfl,?OU s1 ht,rfl,a,D,xs,k+1,m,rfl,?f1,s1 _ _ hD,hro.ch.lvok,λH2 s2=>?d3];ext aY;exact ?JK
 apply F7 ?mI;intro sq;apply ?OO (λσ' H'=>Ea λ ?hC=>Ev (σ'=[?j,?M,?aA,?z,?aO,?b6,rS E,none]) ?a7 (?VX E (Dh (V7 xs m m.length))))
 . exact#[_,rfl,_,rfl,t,_,_,_,rfl,rfl,?OU s2 ht,rfl,a,D,xs,m,rfl,?F s2 hL,?H6,by have:=hro.ch.ok.len;omega,h4,λq hq=>(hro.ch.lvok.part q hq).1,λE H3 nE s3 hE=>?OQ #[E,rfl,?dU,hE]]
 apply Sq λE0 H3 s3 hE3=>?_;intro sq;let#[hm0,_]:=hro.ch.edge hsh Da;have g0:=V8 xs m;generalize Dh (V7 xs m m.length)=m0 at hE3 hm0 g0;apply ?OO (λσ' H'=>Nl λ ?hC (mm:Ms) ?uH=>C9 (σ'=?DP) ?a7 (?VX E mm) (ChL xs k mm) (∀q,Au mm q=Au m0 q+(hs.map ?LS).sum))
 . apply(?TY hd (?OU s3 XD))
   let Bz0:?aQ:=λi σ G=>Nl λ ?hC (mm:Ms) ?uH=>C9 (σ=?DP) ?f7 (G E=?TJ mm) (ChL xs k mm) (∀q,Au mm q=Au m0 q+((hs.take i).map ?LS).sum)
   apply Ch (lo:=0) (n:=us.length) Bz0
    #[E0,m0,?k,rfl,s3,hE3,hm0,λq=>(qf6 _).symm] ?_ ?_
   . ext lY
     ext U
     revert σ;apply yX ?_;intro E mm o7 g QF XC gm Er;obtain⟨p,hp⟩:∃p,hs[i]?=?c p:=?fU
     obtain⟨v,hv⟩:∃v,us[i]?=?bE:=?fU
     let ?CV:=?IR;let#[pb,pm]:=pbs p (qb1 hp);have i0:?h5=?q4:=O9m
     have atu:BP us ?oX=?QD t1:=?BO
     have atd:BP (?yH) ?oX=?T7 (Fk c p):=by rw[i0];exact Bo (by rw[qb0,qb0,hp];rfl)
     apply#[_,rfl,_,rfl,_,rfl,d,_,_,_,rfl,rfl,?OU g hd0,atd,_,rfl,_,rfl,hd,us,_,_,rfl,rfl,?OU g XD,atu,t1,_,_,_,rfl,rfl,?d9,rfl,E,c1,Fk c p,mm,p.2.1,rfl,QF,e1,?y4,?xE,by have:=XC.ok.len;omega,?B7,pm,λE' G1 nE' g1 hE'=>?_];apply#[E',_,_,rfl,?iF,hE',XC.lp pb.r _,λq=>?_];rw[j5 ?y4 ?xE,gm q,qR _ hp,ql4]
   . ext aR;apply yX ?_;intro E mm o7 g QF XC gm Er;rw[ul,qd2]at gm;exact ?OQ #[E,mm,_,rfl,g,QF,XC,gm]
 apply yC λE mm o7 H4 s4 hE4 XC gm=>?_;intro sq;have es:sameC mm c=true:=NS ?y4 hc.ok.n XC.ok.z hc.ok.z λq=>by rw[gm q,g0 q];exact hro.sum q
 apply#[_,rfl,_,rfl,E,b,mm,c,rfl,rfl,?m hE4,?Q3 s4 hb,?_];rw[es];exact kq H4 s4
noncomputable abbrev jI:Stmt:=top 8
def LS:?v ?kG ?wB (Ar jI):=Bi
def WK[?x](F:E9 K ?rT ?rT jI f fd)[?w][?zL](Pm:Has P w K mg ?d ?FQ [?X,?tP] 1 (Qd K))[?N6]:?QB ?wB LQ:=by
 apply ?PB LS;let#[a,th,d,xs,rfl,hL,hd,k]:=h;let#[BR,bP,aU]:=T.x_FACE_COUNTS;ext dJ
 apply#[_,(Ac (?W8 (?TG (?WY D8) ?o) (Lm (Bf ?n0 (?OY ?a0) (Ku (v:=?f BR) ?g bP rfl) rfl)))
  (Ac (?PH LS.nd (?T6 Gj ?a0))
  (Ac (?WU (Dc (C5 (Az ?kD ?j7 Ob (?VI (B8 (N':=["face",?X,"level"]) (cap:=[none,?jP,?oP]) ?g ?aB (?P6 U9 ?o) (?T5 Az3) ?aI (?W9 (?T6 Df (Aa ?o (?OP ?l (Bh G0 ?p Ak)))))))))))
  (?VG (Ax6 (Kv Qv ?p Ak ?s) (Pa (?T6 Pm ?c0))))))),?_]
 ext I
 apply#[_,rfl,_,_,d,rfl,.inr (.inr (.inr (.inl rfl))),hd,_,rfl,?_];cases d with
 | non=>ext iW
 | bl b=>ext iW
 | int i=>ext iW
 | str z=>ext iW
 | lst es=>ext iW
 | tup ds =>
   let#[pa,us,rfl,hq,r]:=id hd;have ul:?PW ds.length:=r.length;apply ?R3 (by simp[ME]);apply#[_,rfl,pa,us,rfl,?B hq,?e (us.length:Int),E4 [0,2,3,4],rfl,?B #[_,_,rfl,aU H,?kR],(by rw[Oa];decide),_,rfl,?_];rw[ul]
   have cnt:(! ?AD ?JI)=! ?sB:=by
    have:?AD (?JI)=?sB:=by
     simp only[E4,qc8,qq1,qn2,List.any_nil,eqD,FG];rw[qm8];simp only[qs1,qx3,Bool.or_false];omega
    rw[this]
   by_cases hc:?sB=true;ext a8
   . have hc':?sB=false:=by simpa using hc
     apply ?SK (by rw[?c9,cnt,hc'];rfl);have e2:?MC:=by rw[Sb];simp[hc']
     rw[e2]at k;ext iW
   apply ?R3 (by rw[?c9,cnt,hc];simp);have hn4:ds.length<=4:=(xO hc).1;apply#[_,rfl,_,ds,rfl,?B hd,?_];apply(?RO pa #[_,hq])
   let By9:?aK:=λi ys τ H1=>By ?jC ?i6 (ys=((ds.take i).map λe=>V.bl (?K1))) (?PV [o,?j,?T7 (?i1)])
   apply Xh (K:=K) (a:=pa) (xs:=us) By9
    ?hO (?RC ?l4 s1.seqT) ?_ ?_
   . ext sM;intro s1 D7 hys o Er;have hi:i<us.length:=?iM;let#[e,he,re]:=r.getV hx;apply#[_,rfl,_,rfl,_,rfl,_,_,rfl,rfl,a,x,e,_,xs,rfl,?f1,?F s1 re,?_];apply#[D7,?cQ (by rw[hys,qa4,qd5];omega),?wP,Ab,?_,_,rfl];rw[qe7,he,qb4,hys];rfl
   . rintro ys τ H1 ⟨s1,D7,hys,_⟩;rw[ul,qd2]at hys;have Bo9:ys=(?fZ ?k1).map V.bl:=by rw[hys,qk5];rfl
     rw[Bo9]at D7;apply#[D,_,rfl,?vH,_,rfl,?_];have A72:(?fZ ?k1).all id=ds.all ?k1:=by rw[List.all_map];rfl
     by_cases ha:(ds.all ?k1)=true;ext a8
     . have ha':(ds.all ?k1)=false:=by simpa using ha
       apply ?SK (by rw[A72,ha'];rfl);have e2:?MC:=by rw[Sb];rw[ha',hc];rfl
       rw[e2]at k;exact ?i3
     apply ?R3 (by rw[A72,ha];simp);have e2:?H0=(?aJ (?i1<2) || Ng xs (?fZ YD)):=by rw[Sb];rw[ha,hc];rfl
     rw[e2]at k;ext cD;ext bR
     . have h2:(?aJ (?i1<2))=true:=h1;rw[h2]at k;exact ?i3
     . have h2:(?aJ (?i1<2))=false:=?Z
       rw[h2]at k;have hint:=iN ha
       have tv:TI K H1 (?f pa) (?fZ YD):=by
        have:=?F s1 hd;rw[hint]at this;exact this
       apply#[_,rfl,_,rfl,a,_,xs,?fZ YD,rfl,?f1,tv,by simpa using hn4,?_,?i3];intro f hf;rw[qd3]at ha
       have hm:L2.D.int f∈ds:=by
        rw[hint];exact qd0.mpr #[f,hf,rfl]
       have:=ha _ hm;simp only[D5,qb7,qp5]at this;let#[#[f0,f1],f2]:=this;apply#[f0,f1,?_];rw[qa4];rw[EG,EG]at f2;have h3:¬?i1<2:=?hZ
       rw[EG]at h3;omega
noncomputable abbrev Wp:Stmt:=top 13
def JE:?v ?nF ?nF (Ar Wp):=Bi
def JO[?x](F:E9 K ?pC ?pC Wp f fd)[?w][?N6][?zM]:?QB ?nF Zp:=by
 apply ?PB JE;let#[a,xs,k,p,n,rfl,hL,kq]:=h;apply(?WA (M5 (?T6 Df (Aa ?l (Aa ?p ?a0))) (M5 (?T6 Gk ?eS) (Pa (Kv Ib ?r Ak ?s)))));apply#[_,rfl,_,rfl,_,rfl,a,?e p,?e p,k,xs,rfl,hL,rfl,_,rfl,?_];ext zW
 . apply#[_,rfl,_,?e n,rfl,rfl,_,rfl,?_];apply ?SK rfl;apply ?CB
   have e2:?MI=! ?aJ (?S n=?k2):=by
    unfold Jc;rw[e];by_cases z:n=0
    . subst z;simp
    . simp[z]
   rw[e2]at kq;exact kq
 . have e2:?MI=false:=by unfold Jc;simp[e]
   rw[e2]at kq;exact kq
noncomputable abbrev Gx:Stmt:=Fd ?jW 4
def Ez:?v [?a9,"i","first","j","at","quotient"] ?wX (Ar Gx):=Bi
def Qz[?x](F:E9 K ?vR ?M2 Gx f fd)[?w][?zC]:?UC ?wX (?OZ Lb):=by
 apply ?PB Ez;let#[H0,p,q,M,n,W,t,cnt,s,i,f,rfl,x,hi,hf,hif,hds,ok,k]:=h;ext sU;let ?j6:=x.ex;ext fA
 apply#[_,(Ai (B6 qb8 rfl (CB ?g ?aV (?OP ?p ?lB)) (?OT 3 Ez.nd) (Ac (?PG Ez.nd (?UN ?V))
  (Ac (?WC Ez.nd (Bh J4 (?VJ ?c3 ?D) (?VJ (?UN ?V) ?D)))
  (?WH (?P0 Ib ?a1) (?TI Cz (?VI (Es (Aa O9 (Aa ?o (?OP ?r (Nw Je ?a1)))))))))))),?_]
 apply#[_,rfl,_,rfl,p,Af,dx,fs,_,rfl,hp,?O,?eZ,l3,q,_,rfl,?G3,(f:Int),(cnt:Int),?tR,O9m,?_];rw[show(((cnt:Nat):Int)-?IB).toNat=cnt-f by omega];clear lx hp l1 l2 l3 l4 l5;apply Ch (lo:=(f:Int)) (n:=cnt-f) (λd σ G=>Nl λo3 o4 o5=>σ=[?q,?bK,iS f,o3,o4,o5]/\?QI G (?nD)) #[?k,?k,?k,rfl,x] ?_ ?_
 . rintro d σ G hd C6;revert σ;apply ?qO;intro o3 o4 o5 y Er;let ?j6:=y.ex;ext fA;ext sT;let ?FF:=hds ?e9 O9m O9m;have bo:=?M8;have ej:?IB+?II=((?w1:Nat):Int):=O9m
   rw[ej];have hji:f+d≠i:=O9m
   have er:(?nD).1 ?e9=s.1 ?e9:=Zw t i f s d _ hji;ext zS;let#[cj,_,ecj,_,hcj]:=?P6 ?nA (show f+d<n by omega);rw[er]at hcj;apply#[_,rfl,p,Af,dx,fs,_,rfl,hp,?O,?eZ,l3,_,rfl,q,_,_,_,rfl,rfl,?vC,?s7,?_];apply#[_,rfl,p,Af,dx,fs,_,rfl,hp,?O,?bZ,l1,_,rfl,r,_,_,_,rfl,rfl,?dY,?j2,_,rfl,ci,_,_,_,rfl,rfl,OV,?qQ,_,rfl,p,Af,dx,fs,_,rfl,hp,?O,?bZ,l1,_,rfl,r,_,_,_,rfl,rfl,?dY,Bo ecj,_,rfl,cj,_,_,_,rfl,rfl,hcj,?qQ,_,_,rfl,rfl,?C4,?_];have hsx:∀G',?QI G' (?HZ i ?e9 (-(?o7)) (?nD))->?QI G' (?wZ t i f s (d+1)):=λG' z=>z.re (by rw[Lat.shrS,er]);have hq:(?o7).natAbs<2 ^ big:=Lat.fdiv_small h2 (?hE i _ hi h1);apply Am (λσ' H'=>σ'=[?q,?bK,iS f,?c (?e (?w1:Int)),?c (?e ((t ?e9:Nat):Int)),?T7 (?o7)]/\?fR) ?_ λkey=>?OQ #[by rw[←?KZ];rfl,rfl];ext eE;generalize ?o7=qq at hsx hq;ext bS;ext zV
   . apply#[_,rfl,p,dx,fs,rfl,hp,?hY,_,rfl,_,rfl,_,rfl,_,rfl,?bQ,?x5];have s1:?h G (?wE):=?lE;have hT:?QA ?wE (?E8):=?rG
     generalize ?wE=G1 at s1 hT;apply#[p,?iP,Af,r,b,_,n,W,_,_,?E8,rfl,?kZ,?uF,hT,#[hi,O9m,λz=>hji z.symm,?RQ (by rw[qc7];exact hq) (?hE _ _ O9m hc)],#[O9m,hi,hji,?RQ (by rw[qc7,qc7];exact hq) (bo.2 _ _ hi hc)],O9m,O9m,?r9];exact#[_,_,_,rfl,hsx _ (y.redo s1 sx n1 n2 z)]
   . have h5:qq=0:=?mM
     subst h5;exact#[_,_,_,rfl,hsx _ (y.re (Lat.addS_zero _ _ _).symm)]
 . ext aR;apply ?qO;intro o3 o4 o5 y Er;exact k _ y
noncomputable abbrev Ox:Stmt:=Fd ?k9 4
def Jr:?v [?a9,"i","j",?gQ,?dQ,?hS] ?v7 (Ar Ox):=Bi
def aW[?x](F:E9 K ?wH ?F2 Ox f fd)[?w](Kz:?PS P Ag)(M9:?PR P Ag):?UC ?v7 (?OZ BY):=by
 apply ?PB Jr;let#[H0,p,L,R,nm,n,w,m,i,j,l,r,f,rfl,x,hij,hj,mn,mw,ok,k1,k2]:=h;let ?p8:=x.sm;ext lM;ext zP;let#[p1,p1']:=ok.p1;let#[p2,p2']:=ok.p2
 apply#[_,(Ac (?P8 Jr.nd ?c3)
  (Ac (?PG Jr.nd ?gI)
  (Ai (Bx (?P0 Ib (Bh Eg ?D ?r)) (Ac (Br (?UM (?WE ?o ?dM)))
  (Ac (?WC Jr.nd (C7 ?V ?d6 M9 hr (Aa ?o (Aa ?p ?lH))))
  (Ac (Br (?UM (Aa ?p (?OP ?o (Nw Je (Bh J4 (Bh Jt ?bW ?D) ?bW))))))
  (Ac (Lo ?bW (Lq ?V ?o Ga))
  (Ai (Lo (Bh Jt (Bh J4 ?r ?bW) ?D) (Lq ?V ?p Ga))))))) Bj)))),?_]
 ext I
 apply#[_,rfl,p,Aj,kL,kH,_,rfl,hpa,?J,?eX,zA,_,rfl,nm,_,_,_,rfl,rfl,?wY,?SL (show i<m by omega),?_];apply#[_,rfl,p,Aj,kL,kH,_,rfl,hpa,?J,?eX,zA,_,rfl,nm,_,_,_,rfl,rfl,?wY,?SL hj,?_];apply ?P1 (?VV j);ext aS;apply(?RE p1);ext bR;ext a8
 . have h2:f j%f i=0:=?Z
   exact k1 (?DK h2)
 ext I
 let#[dl,fl,hL,_,_,_,m4,_]:=lx.ob;apply ?OO (λσ' H'=>σ'=(?VV j)/\∃r1 b1,?TU H' ?nZ/\LX H' Ag L r1 b1 ?k n n ?nZ (λa=>a=nm\/a=r2\/a=b2)/\?V3 r/\?W0 H0 r1/\?W0 H0 b1)
 . apply#[_,rfl,p,Aj,kL,kH,_,rfl,hpa,?J,?fW,l3a,L,dl,fl,rfl,hL,?JA,_,rfl,_,rfl,?bQ,?x5];have s1:?h H (?wS):=?lE;have hT:?QA ?wS (?HI):=?rG
   generalize ?wS=G1 at s1 hT;apply#[L,?iP,Ag,r1,b1,_,n,n,l,_,?HI,rfl,?dN,?uF,hT,?B2,?B2,O9m,O9m,?r9];let ?BG:=x.left lx ly f3 f4 s1 sx n1 n2 z;exact ?OQ #[rfl,r',b',y1,z,y2,?tV n1,?tV n2]
 ext zZ;let#[r1',ZG,x2,lx2,ly2,f1',f2']:=fT;let#[tvb,dxb,fsb,hpb,l1b,l2b,l3b,l4b,l5b,l6b,l7b,_]:=x2.ob;let#[dr,fr,hR,_,_,_,m5,_]:=ly2.ob;apply qy1 (λσ' H'=>Tb λ ?HS (g a b:Int)=>Hz (?VK j) (?uQ (f i) (f j) g a b) (?V2 H') (?UF ?nZ) (?UA L ?nZ) (?V3 ?p3)) ?i ?_
 . apply#[_,rfl,p,Aj,dxb,fsb,_,rfl,hpb,?J,?iG,l4b,R,dr,fr,rfl,hR,?DB,_,rfl,_,rfl,_,rfl,_,rfl,?_];apply#[R,Ag,r2,b2,_,w,w,i,j,f i,f j,r,_,rfl,?dN,ly2,O9m,O9m,O9m,O9m,O9m,p1,p2,p1',p2',ok.br,λP g a b G fr kp hT sh z=>?_];let ?BG:=x2.right lx2 ly2 f1' f2' f3 f4 fr kp z;exact ?OQ #[P,g,a,b,rfl,sh,hT,y1,y2,z]
 apply YA λP g a b H3 sh hT3 x3 lx3 ly3=>?_;intro sq;let ?GS:=x3.ob;let#[dl3,fl3,hL3,_,_,_,m6,_]:=lx3.ob;have g0:=sh.pos;have lg:?JZ:=?Q0 p1';have lb:b.natAbs<L9:=qc1 sh.lb p1';ext OM;have ek:∀z:Int,z.fdiv g=z / g:=λz=>?z1;have lk':(?FC).natAbs<2 ^ 18000:=qc1 ?jT (Bm8 lb p2');apply ?OO (?WJ (?UF (shL i j g b f l)))
 . apply#[_,rfl,p,Aj,dxc,fsc,_,rfl,hpc,?J,?fW,l3c,L,dl3,fl3,rfl,hL3,m6 _ ?cB,_,rfl,_,rfl,_,rfl,P,_,_,_,rfl,rfl,hT3,rfl,_,rfl,_,_,rfl,rfl,eE lb p2',_,rfl,P,_,_,_,rfl,rfl,hT3,rfl,_,_,rfl,rfl,cb _,_,rfl,?bQ,?_];rw[ek];intro T1 hT1;have s1:?h H3 (?yY):=?lE;have hT:?QA ?yY (?G8):=?rG
   generalize ?yY=G1 at s1 hT;apply#[L,?iP,Ag,r1',ZG,_,n,n,_,_,?G8,rfl,?dN,lx3.keep s1,hT,#[O9m,O9m,O9m,?RQ (by rw[qc7];exact lk') (ok.bl.2.1 _ _ O9m hc)],#[O9m,O9m,O9m,?RQ (by rw[qc7,qc7];exact lk') (ok.bl.2.2 _ _ O9m hc)],O9m,O9m,?r9];let#[y1,_]:=x3.left lx3 ly3 f3 f4 s1 sx n1 n2 z;exact ?OQ #[rfl,LP (s1.seqT hT3) (s1 _ _ hL3) sx,y1]
 apply LK λH4 hT4 x4=>?_;intro sq;let#[tvd,dxd,fsd,hpd,l1d,l2d,l3d,l4d,l5d,l6d,l7d,_]:=x4.ob;apply#[_,rfl,P,_,_,_,rfl,rfl,hT4,rfl,_,rfl,p,Aj,dxd,fsd,_,rfl,hpd,?J,?eX,l5d,_,rfl,nm,_,_,i,rfl,rfl,x4.nu,Kx (?t6),?_];have e1:?F3=?W1 ?yW:=qU O9m;have x5:=x4.num (ns':=?yW);rw[←e1]at x5;have hT5:?V2 (upd H4 nm (?n (?F3))):=Av0 hT4 x4.nu;apply Ew (?WJ (WX K Ag Aj H0 H' p L R nm n w ?k (shL i j g b f l) ?p3 (?yW))) ?_ λLz=>Lz _ _ #[rfl,hT5,x5];apply LK λH6 hT6 x6=>?_;intro sq;let#[tve,dxe,fse,hpe,l1e,l2e,l3e,l4e,l5e,l6e,l7e,_]:=x6.ob;have lA:(f i / g).natAbs<L9:=qc1 ?jT p1';apply#[_,rfl,_,rfl,P,_,_,_,rfl,rfl,hT6,rfl,_,_,rfl,rfl,cb _,_,rfl,_,_,rfl,rfl,(by rw[ek];exact eE lA p2'),_,rfl,p,Aj,dxe,fse,_,rfl,hpe,?J,?eX,l5e,_,rfl,nm,_,_,j,rfl,rfl,x6.nu,Kx (by rw[Bu];exact hj),?_];rw[ek]
 have e2:(VI m ?HC).set j (?e (f i / g*f j))=?W1 ?KB:=by
  rw[qU hj];show VI m _=VI m _;apply Rk ?C0;unfold shF Lat.put2;by_cases z1:c=j
  . subst z1;rw[?c9,?oY,?c9]
  . rw[?b4 z1];by_cases z2:c=i
    . rw[?cH z2,?cH z2]
    . rw[?b4 z2,?b4 z2,?b4 z1]
 have x7:=x6.num (ns':=?KB);rw[←e2]at x7;exact k2 g a b _ sh x7
noncomputable abbrev Tl:Stmt:=top 67
def C4:?v [?X,"k",?hS,?z0,?yF,?mS,?bB,?fX,"turned_loops","turned_gauges","fillings",?d1,"i",?b7,?oF,?qM] ?xY (Ar Tl):=Bi
def gR[?x](F:E9 K ?pY ?pY Tl f fd)[?w][?NL][?lO][?sL](N8:Has P w K mg ?d ?p5 ?oK 3 (BX K)):?QB ?xY Xr:=by
 apply ?PB C4;let#[a,tp,nm,r1,D1,D2,b2,vl,vg,xs,k,z,k0,w,L,G,f,l,r,rfl,hL,Da,hw,hvl,hvg,x,hz,hkz,hkw,hf0,bl1,bl2,bL,bG,kq]:=h;let#[la,lu,rfl,hlq,Ah9,_]:=Iz hvl;let#[ga,gu,rfl,_,_,_]:=Iz hvg;have hm:?iD<=40:=?u4;have hwl:w<=40:=by rw[hw];exact ?u4
 apply#[_,(Ac (?WC ?cE (?OY ?eS))
  (Ac (?WD 6 (?OY (?VI (?T6 Bs ?c0))))
  (Ac (?WD 7 (Bh (?WY W3) ?eJ (Bh rO ?IF (Bh G0 ?a1 (?OY (?VI ?eJ))))))
  (Ac (?WD 8 (?T6 L5 (Aa (An C8 hr (Aa ?eJ ?cF)) (?OP ?r ?Y))))
  (Ac (?WD 9 (?T6 L5 (Aa ?eJ (?OP ?D ?Y))))
  (Ac (?WD 10 (?T6 C8 (?OP ?eJ (?X6 (?VI ?eJ)))))
  (Ac (?V7 11 ?cE)
  (Ac (B6 qb8 rfl (?RW U3 (?VI ?aW)) (?OS (?TM 12 ?cE) (?TM 13 ?cE)) (Ac (?WD 14 (c5 (?P0 Fb ?kC) G9 (?T6 N8 (?WR ?hM (?VJ ?mV ?jB)))))
  (Ac (?WD 15 (?T6 N8 (?WR ?o (?VJ ?c4 ?jB))))
  (Ai (?WN ?lD (?VI (Es (Aa ?kC (Aa (pv 15) (Aa (?T6 N8 (?WR ?o (Ba ?W ?bH ?jB ?A))) (?WZ (pv 14))))))))))))
  (?VG ?lD))))))))),?_]
 ext I
 apply ?OO (λσ' H'=>σ'=[?j,?M,?b3,?b8,?b5,?d5,none,none,none,none,none,none,none,none,none,none]/\?aZ)
 . ext OJ;ext eD
 ext aS;apply ?OO (λσ' H'=>?TB none none/\?f0)
 . apply#[_,rfl,_,rfl,a,k,xs,rfl,hL,O9m,λP H1 nP s1 hP=>?_];ext zQ;exact ?mC
 ext lQ;apply ?OO (λσ' H'=>Ea λ(nn:Addr)=>Ev (?TB ?eQ none) ?a7 (?VP nn (?BU)))
 . have x1:=?hT s1;apply#[_,rfl,tp,_,_,_,rfl,rfl,x1.tup,rfl,?bQ,λl1 hl1=>?_];have s2:?h H1 (?IT):=?y hl1;have e2:upd H1 l1 ?n3 l1=?c ?n3:=Ab;generalize ?IT=H2 at s2 e2;have x2:=x1.same s2;apply#[_,rfl,_,rfl,tp,_,_,_,rfl,rfl,x2.tup,rfl,nm,_,rfl,?m x2.num,_,_,rfl,rfl,l1,_,_,rfl,rfl,e2,?_,?_,?_,λl2 hl2=>?_]
   . rw[Bu];omega
   . rw[Bu];omega
   . rw[Bu];exact ?yG
   have er:(?dB (?y1-(((VI k0 f).length:Nat):Int)).toNat [?k2]).flatten=?CG:=by
    rw[Bu,show(?y1-?n8).toNat=z-k0 by omega];generalize z-k0=n
    induction n with
    | zero=>rfl
    | succ n ih=>rw[qj6,ql8,ih];rfl
   rw[er];have s3:=?bO (?y (o:=?n (?CG)) hl2);have x3:=x1.same s3;apply#[nm,l2,_,_,rfl,rfl,x3.num,?bV,Cb (by rw[Bu,qj9];omega),λnn hnn=>?_];apply ?OQ #[nn,rfl,(?t1).trans (?y hnn),?_];rw[Ab,jR hkz]
 apply Sq λnn H2 s2 hnn=>?_;intro sq;apply ?OO (λσ' H'=>Ea λ(tl:Addr)=>Ev (?TB ?eQ ?gE) ?nC (?US tl (dT z ?hW (?kU z l.2 L))))
 . have x2:=?hT s2;apply#[_,rfl,tp,_,_,_,rfl,rfl,x2.tup,rfl,_,rfl,?eG,z,z,_,rfl,x2.lback,O9m,O9m,λF as H3 hal R3=>?_];apply#[_,rfl,_,rfl,?f F,?z5,z,z,?iD,_,_,rfl,R3.rep hal,?F (?bO ?lL) hvl,O9m,O9m,O9m,?QL bl2 bL,λtl at_ H4 mG R4=>?_];exact ?OQ #[tl,rfl,R3.same.trans ?y6,R4.rep mG]
 apply Sq λtl H3 s3 mG=>?_;intro sq;have s23:=?dU;apply ?OO (λσ' H'=>Ea λ(tg:Addr)=>Ev (?TE none none) (?U7 H3) (?US tg (dT z ?hW (?kU z l.1 G))))
 . have x3:=?hT s23;apply#[_,rfl,tp,_,_,_,rfl,rfl,?wT,rfl,_,rfl,_,rfl,?f r1,?pV,z,z,?iD,_,_,rfl,x3.left,?F s23 hvg,O9m,O9m,O9m,?QL bl1 bG,λtg at_ H4 htg R4=>?_];exact ?OQ #[tg,rfl,?y6,R4.rep htg]
 apply Sq λtg H4 s4 htg=>?_;intro sq;have qE:=s23.trans s4;apply ?OO (λσ' H'=>Ea λ(fi:Addr)=>Ev (?TE ?l0 none) (?U7 H4) (?US fi (dT w w r.1)))
 . have x4:=?hT qE;let#[_,du,ez,hdq,Br6,_]:=Iz ?G6;cases ez;apply#[_,rfl,tp,_,_,_,rfl,rfl,?uK,rfl,_,rfl,tp,_,_,_,rfl,rfl,?uK,rfl,D2,du,rfl,?m hdq,?_];rw[Br6];apply#[?d4,w,w,_,rfl,?G6,O9m,O9m,λfi at_ H5 hfi R5=>?_];exact ?OQ #[fi,rfl,R5.same,R5.rep hfi]
 apply Sq λfi H5 s5 hfi=>?_;intro sq;apply ?OO (λσ' H'=>Ea λ ?e3=>By (?TE ?l0 ?H) (?tA) (?W0 H5 D) ?D1)
 . ext NM
 apply Mf λD H6 s6 nD hD=>?_;intro sq;have s25:=qE.trans s5;have A38:=(?QH ?oE s5) _ _ hnn;have Bp3:=?F (s4.trans s5) mG;have Bp4:=?F s5 htg;have hL5:=?F s25 hL;apply ?OO (λσ' H'=>Ye λ ?v5 ?HP=>By (σ'=?K8) (?tA) (?bT=?gY) (B4 H' us (?U0 Ft k)))
 . apply#[_,rfl,nn,rfl,#[_,?OU s6 A38],?_]
   let By8:?aQ:=λi σ G'=>Ye λ ?v5 ?HP=>By (σ=?K8) (?h H5 G') (G' D=?gY) (B4 G' us (?K5 (?U0 C0 k)))
   apply y7 (K:=K) (a:=nn) (xs:=?BU) By8
    #[[],?k,?k,?k,?k,rfl,s6,hD,trivial] (λi σ G' _ hz=>?TK #[_,_,_,_,_,_,g,_] A38) ?_ ?_
   . rintro i v σ G' p hv C6 hp
     ext U
     ext NS;have hi:i<z:=by have:=?nN;rwa [Bu]at this
     rw[Co hi]at hv;cases hv;have usl:?PW i:=by have:=rU.len;rw[qa4,qp7]at this;exact this
     have sp:?h G' (?HU):=?eL;have ep:upd G' p (?C [?bC,?eO]) p=?c (?C [?bC,?eO]):=Ab;apply(?R6 ep);generalize ?HU=G1 at sp ep;have g1:=?cJ sp
     have rows:∀(t:Addr) (h w':Nat) (M:Lat.Mat) (G2:Hp),Rep K G2 (?f t) (dT h w' M)->i<h->∃tu b,SqL K G2 t tu/\BP tu ?aP=?c (?p0)/\SqL K G2 b (VI w' (M i)):=λt h w' M G2 hr hih=>by
      let#[_,tu,ez,hq,hl,Pi]:=Iz hr;cases ez;obtain⟨u,hu⟩:∃u,tu[i]?=?c u:=#[tu[i],qa0 O9m]
      let ?FU:=Pi i u hu;exact#[tu,b,hq,Bo hu,hb]
     apply ?OO (λσ' H'=>Ea λ(fl:Addr)=>Ev (σ'=[?j,?M,?b3,?b8,?b5,?d5,?dP,?eQ,?gE,?i7,?l0,?H,?e1,?BH,rS fl,o15]) ?jG (?VX fl (if ?pA=0 then [] else L8 xs (k+1) (r.1 i))))
     . ext bS;ext bR
       . have e0:?pA=0:=?Z
         apply λfl hfl=>?OQ #[fl,rfl,?y hfl,?_];rw[Ab,?cH e0];rfl
       . have e0:¬?pA=0:=?Z
         have hik:i<k0:=by
          by_cases hh:i<k0
          . exact hh
          . unfold Lat.numAt at e0;rw[?b4 hh]at e0;exact ?r2 rfl e0
         let ?xD:=rows fi w w r.1 G1 (?F g1 hfi) O9m;apply#[_,rfl,_,rfl,_,_,rfl,rfl,_,rfl,_,rfl,fi,tu,_,_,rfl,rfl,h1q,h2q,a,b,xs,k+1,Ii w (r.1 i),rfl,?F g1 hL5,O9m,?vW,by rw[Iu,hw],λfl G2 nfl g2 hfl=>?_];apply ?OQ #[fl,rfl,g2,?_];rw[hfl,?b4 e0,hw];rfl
     apply Sq λfl G2 g2 hfl=>?_;intro sq;have HX:=?fC;apply ?OO (λσ' H'=>Ea λ(lp:Addr)=>Ev (σ'=[?j,?M,?b3,?b8,?b5,?d5,?dP,?eQ,?gE,?i7,?l0,?H,?e1,?BH,rS fl,rS lp]) (?U7 G2) (?VX lp (L8 xs k (?kU z l.2 L i))))
     . let ?xD:=rows tl z ?hW _ G2 (?F HX Bp3) hi;apply#[_,rfl,_,rfl,_,rfl,_,rfl,tl,tu,_,_,rfl,rfl,h1q,h2q,a,b,xs,k,Ii ?hW (?kU z l.2 L i),rfl,?F HX hL5,O9m,?vW,?I3,λlp G3 nlp g3 hlp=>?_];exact ?OQ #[lp,rfl,g3,hlp]
     apply Sq λlp G3 g3 hlp=>?_;intro sq;have zD:=HX.trans g3;have Aw1:=(?I6 g2).trans g3;let ?xD:=rows tg z ?hW _ G3 (?F zD Bp4) hi;apply#[_,rfl,?m #[rfl,_,?OU Aw1 Eu],_,rfl,_,rfl,_,rfl,_,rfl,_,rfl,_,rfl,tg,tu,_,_,rfl,rfl,h1q,h2q,a,b,xs,k,Ii ?hW (?kU z l.1 G i),rfl,?F zD hL5,O9m,?vW,?I3,λgp G4 ngp g4 hgp=>?_];apply#[_,rfl,?bQ,?v8];have g5:=?y (o:=?PX fl) ht;have et:upd G4 t (?PX fl) t=?c (?PX fl):=Ab;generalize upd G4 t (?PX fl)=G5 at g5 et;have g45:=g4.trans g5;have s05:=Aw1.trans g45;apply#[D,_,_,rfl,rfl,?mQ,?dE,?_];have hP:Jb G5 (?f t) (C0 xs k z k0 L G f l r i):=#[t,lp,gp,fl,rfl,et,g45 _ _ hlp,g5 _ _ hgp,(?uI g45) _ _ hfl,(Aq (g3 _ _ hfl) ngp).symm]
     have nDt:∀c o,?A5->(∀vs,o≠?n vs)->?gW:=λc o e h z=>by
      rw[z,?mQ]at e;cases e;exact h _ rfl
     have sx:∀c o,?gW->?A5->upd G5 D (?n (?CT)) c=?cR:=λc o hc e=>by rw[Al hc];exact e
     apply#[?CT,_,_,_,_,rfl,?UY s05 nD,Ab,?_];rw[qk9,qb4];exact B4.snoc (B4.put (?mQ) (B4.same s05 rU)) (Jb.put hP (?mQ))
   . rintro σ G' C6;ext NS;rw[Bu]at rU;exact ?OQ #[us,_,_,_,_,rfl,g,Eu,rU]
 apply As2 λus LW JQ o14 o15 H7 s7 hD7 rU=>?_;intro sq;exact#[_,rfl,kq D us H7 (s25.free nD) (s25.trans s7) hD7 rU]
noncomputable abbrev O6:Stmt:=Fd (top 69) 2
def aT:?v ?nK ?nK (Ar O6):=Bi
def AY[?x](F:E9 K ?xI ?DR O6 f fd)[?w][?zH]:?UC ?nK ?E5:=by
 apply ?PB aT;let#[p,k,B,xs,ls,rfl,bk,sB,hk0,Yu,kq]:=h;ext lR;let#[dx,P,Lv,Lf,lu,wu,hp,_,UZ,hW,_,_]:=bk.ob;let ?J0:=hW.at (k:=k.toNat) (by have:=bk.n4;ext dK)
 rw[qb0]at e2;let#[ps,hps,rfl]:=?jQ e2;have hpl:=?A6 bk.len;ext zO;have el:=rE.len
 have hat:BP lu k=?QD E:=by
  have:=Bo e1
  rwa [?JF]at this
 apply#[_,(Ac (?WF D9 (?OP ?o (?VO 4)))
  (Ai (Bb (B8 (N':=[?sZ,?qM,?nJ,?oF]) (cap:=[none,none,none,none]) ?g ?aB (?P6 Cd ?c3) (?W9 (?UB (?OT 0 EB) (Bl (?OT 1 EB) (Bl (?OT 2 EB) (Bl (?OT 3 EB) Dl))))) ?aI (?W9 (Es (Aa ?l (Aa (?TO ?a0) (?OP (?TO ?aF) (?TO ?eS)))))))))),?_]
 ext I
 apply#[_,rfl,k,4,rfl,hk0,Yu,?_];apply#[_,rfl,p,Av,dx,_,_,rfl,?KS,?bP,?xW,rfl,_,rfl,Lv,lu,_,_,rfl,rfl,?OU sB UZ,hat,E,rfl,#[_,?OU sB hE],?bM]
 let By7:?aK:=λi ys τ G=>By ?f7 (G D=?qH) (El H G ys (?f5 i)) (Tb λo1 o2 o3 o4=>τ=[o1,o2,o3,o4])
 apply Cs (K:=K) (a:=E) (xs:=eu) By7
  #[?f2,Ab,#[rfl,λi v p e=>?x8],_,_,_,_,rfl] (?W4 (sB _ _ hE)) ?_ ?_
 . rintro i v ys τ G hv C6;revert τ;apply A05 ?_;intro g Eu rY o1 o2 o3 o4 Er;ext iX;let ?G0:=?MM;let#[t,c1,c2,c3,rfl,et,d1,d2,d3,_]:=pv.same ?lF
   have yl:ys.length<=40:=by
    have:=rY.1;rw[qd5]at this;omega
   ext zA;apply#[_,rfl,_,rfl,c1,_,rfl,?m d1,λa1 h1=>?_];have g1:=?y (o:=?OX ?rQ) h1;apply#[_,rfl,c2,_,rfl,?Q3 g1 d2,λa2 h2=>?_];have g2:=?rD (?GR);apply#[_,rfl,c3,_,rfl,?Q3 g2 d3,λa3 h3=>?_];have g2':=?GR;have g3':=?y (o:=?OX ?w6) h3;have g3:=?FP g3';apply#[?bQ,λt' ht'=>?_];have g4':=?y (o:=?C [?hP,?f a1,?f a2,?f a3]) ht';have g4:=?uI g4';apply#[?vP,?dE,?UY g4 hD,Ab,?_,_,_,_,_,rfl];rw[qe7,hq];apply El.snoc ((rY.same g4).put (?vP)) (Px.put ?_ (?vP));exact#[t',a1,a2,a3,rfl,#[(?cJ g3).free ht',?rB h1,(?iF).free h2,(?cJ g2).free h3],Ab,((g2'.trans g3').trans g4') _ _ Ab,(g3'.trans g4') _ _ Ab,g4' _ _ Ab]
 . rintro ys τ G ⟨g,Eu,rY,_⟩;rw[el,qd2]at rY;exact kq ps D ys G hps hD g Eu rY
noncomputable abbrev Ts:Stmt:=top 12
def gJ:?v ?mF ?mF (Ar Ts):=Bi
def GV[?x](F:E9 K ?pJ ?pJ Ts f fd)[?w](y3:Has P w K mg ?d ?pC ?nF 4 (Zp K)):?SQ ?mF Qc:=by
 apply ?PB gJ;let#[a,b,xs,k,ms,rfl,hL,hb,hm,kq]:=h
 apply#[_,(Ac (?TP Fz)
  (?VG (?WG (?WZ (jL (B8 (N':=[?cG,?b7,?X,"k"]) (cap:=[none,none,?jP,?jL]) ?g ?aB (Lp ?p) (?TF yR yR) ?aI (?P3 y3 (Aa ?p (Aa ?r ?c0))))))))),?_]
 ext I
 apply(?T3 _);ext dI;apply ?QQ ?bJ hb;apply#[_,rfl,b,o,?bJ,rfl,Ab,?bM];let#[qG,Yp]:=y6 hD
 let By6:?aK:=λi zs τ H1=>C9 (zs=((ms.take i).map ?BN).map V.bl) (H1 b=?xM) (H1 D=?oT) (Oh b H H1) (?R9 [o1,o2,?j,?M])
 apply Ub (d:=b) (o:=o) (kvs:=?bJ) By6
  #[rfl,?_,Ab,?_,?k,?k,rfl] (λi zs τ H1 _ hz=>by let#[_,e,_]:=hz;exact e) ?_ ?_
 . ext cY;exact Ab
 . intro c q n1 e2;rw[Al (Aq e2 qG),?kK];exact e2
 . rintro i kk x zs τ H1 p hx C6 hp;revert τ;apply sU ?_;intro hz1 hb1 D7 hk1 o1 o2 Er;subst hz1;ext gX;have hlt:?xQ:=?lA;have sp:?h H1 (?Q4 p ?o8):=?eL;ext iT;apply#[_,rfl,_,rfl,_,rfl,_,rfl,a,xs,k,q.1,q.2,rfl,?F sp (?h9 hk1 hb hL),?_];apply#[?GF,?xT,?_,?_,Ab,λc r n1 e2=>?_,_,_,rfl]
   . rw[qn0,hq,qb4,qb4];rfl
   . ext cY;exact ?RX hb1
   . rw[Al (λz=>by rw[z,qG]at e2;cases e2)];exact ?RX (hk1 c r n1 e2)
 . rintro zs τ H1 ⟨rfl,hb1,D7,hk1,_⟩;rw[Kn,qd2]at D7;apply#[hb1,D,ms.map ?BN,rfl,.of (?JG),?_];rw[List.all_map];apply kq _ λc q e2=>?_;ext fB
   . subst z;rw[hb]at e2;cases e2;exact Ab
   . rw[?e4];exact hk1 c q z e2
noncomputable abbrev Li:Stmt:=top 31
def Kd:?v [?i0,?cG,?rN] [?i0] (Ar Li):=Bi
def Yk[?x](F:E9 K ?sD ?sD Li f fd)[?w](tN:Has P w K mg ?d ?rT ?wB 4 (LQ K)):?SQ [?i0] Zo:=by
 apply ?PB Kd;let#[v,xs,rfl,hL,hs,hx,k]:=h;let#[a,us,rfl,hq,r]:=?nM;have hl:?J4:=?pF
 apply#[_,(Ac (B6 qb8 rfl (?RW U3 ?aX) (?OS (?TM 1 Kd.nd) (?TM 2 Kd.nd)) (Ai (Bx (?VD tN (?X8 (?X1 Ir ?o))) (?VG ?o) Bj)))
  (?VG JK)),?_]
 ext I
 apply(?QX a #[us,hq])
 let By5:?aQ:=λi σ G=>Ko λo1 o2=>σ=[?j,o1,o2]/\?x0
 apply y7 (K:=K) (a:=a) (xs:=us) By5
  #[?k,?k,rfl,?jZ H] (?SB #[_,_,_,s1] ?kJ) ?_ ?_
 . rintro i v σ G p hv C6 hp
   ext U
   revert σ;apply yZ ?_;intro o1 o2 s1 Er;have hi:i<xs.length:=by have:=?nN;omega
   let ?LR:=r.getV hv
   have edv:dv=?HY:=by
    rw[qb0,?j8]at tM;simpa using tM.symm
   subst edv;have sp:?h G (?GX):=?eL;ext iT;generalize ?GX=G1 at sp;have s2:=?rX;apply#[_,rfl,_,rfl,_,rfl,a,us,rfl,?mA hq,?C0];have s3:?h G1 (?I4):=?y hc;have ec:upd G1 c (?RD ?c) c=?c (?RD ?c):=Ab;generalize ?I4=G2 at s3 ec;have s4:=?dU
   have Br8:LT K G2 (?f c) (?G2):=by
    apply#[c,_,rfl,.of ec,?_];rw[Vt,qp0];exact(?b2 s4 r).take i
   apply#[_,rfl,c,v,?HY,?G2,rfl,Br8,?F s4 rv,λG3 s5=>?d3];rw[pA (hs i xs[i] ?q8)];ext aY;exact#[_,_,rfl,s4.trans s5]
 . ext aR;apply yZ ?_;intro o1 o2 s1 Er;exact k G s1
noncomputable abbrev Mz:Stmt:=Fd ?jW 2
def Il:?v [?a9,?yK,"i","at","head",?dQ] ?t8 (Ar Mz):=Bi
def f6[?x](F:E9 K ?wG ?M0 Mz f fd)[?w][?N7][?zC](Kl:?PR P Af):Bv P w K mg ?d Eo 5 f fd ?t8 (?OZ GB):=by
 apply ?PB Il;let#[H0,p,q,M,n,W,t,?L,i,s,Nx,rfl,x,hs,hi,ok,k]:=h;ext sU;let ?BL:=x.ex;ext fA;ext sT;let ?FF:=ok.hd ?L (?nS) hs;let#[o1,o2]:=ok.oth;ext zS;let ?FL:=?P6 ?nA ?j9
 apply#[_,(Ac (?P8 Il.nd ?c3)
  (Ac (?PG Il.nd (?UN ?c3))
  (Ac (?WC Il.nd (?UN ?gI))
  (Ac (Bx (?P0 Fb (Bh Eg ?a1 ?D)) (?TI Cz (?VI (Es (?WE O9 (?OP ?o (Nw Je (Bh J4 ?a1 ?D))))))) (Ac (Br (C7 ?l ?O Kl hr (?WE ?o (Aa ?D ?cF))))
  (?TI Cj (?OP ?o ?hM))))
  (?TI Cj (?OP ?p ?hM)))))),?_]
 ext I
 apply#[_,rfl,p,Af,dx,fs,_,rfl,hp,?O,?eZ,l3,_,rfl,q,_,_,_,rfl,rfl,?HM,?SL hs,?_];apply#[_,rfl,p,Af,dx,fs,_,rfl,hp,?O,?bZ,l1,_,rfl,r,_,_,_,rfl,rfl,?dY,Bo ecs,_,rfl,cs,_,_,_,rfl,rfl,hcs,?qQ,?_];apply#[_,rfl,p,Af,dx,fs,_,rfl,hp,?O,?bZ,l1,_,rfl,r,_,_,_,rfl,rfl,?dY,?j2,_,rfl,ci,_,_,_,rfl,rfl,OV,?qQ,?_];apply Am (λσ' H'=>?uN/\?aZ) ?_ ?L6;ext aS;apply qy1 (t:=?w3) (λσ' H'=>?uN/\∃s1,?PN H' s1/\dH n W t i ?f4 i s1/\Hds W t ?f4 i s1.1/\Nx (?wZ t i ?f4 s1 (i-?f4))) ?i ?_
 . apply(?RE h2);ext zV
   . have h5:?hG%?hD=0:=?mM
     have h6:?hG=?uG*?hD:=(Int.ediv_mul_cancel (?DK h5)).symm;let ?BV:=ok.add _ h6;apply#[_,rfl,p,dx,fs,rfl,hp,?hY,_,rfl,_,rfl,_,rfl,_,rfl,_,_,rfl,rfl,?C4,_,rfl,?bQ,?_];rw[?KZ];have hk:(?uG).natAbs<L9:=qc1 ?jT o2;generalize ?uG=kk at h6 yN YM hk;intro T1 hT1;have s1:?h H (?v1):=?lE;have hT:?QA ?v1 (?w9):=?rG
     generalize ?v1=G1 at s1 hT;apply#[p,?iP,Af,r,b,_,n,W,_,_,?w9,rfl,?kZ,?uF,hT,#[hi,O9m,O9m,λc hc=>JT (by rw[qc7];exact hk) (ok.bo.1 _ _ O9m hc)],#[O9m,hi,O9m,λc hc=>JT (by rw[qc7,qc7];exact hk) (ok.bo.2 _ _ hi hc)],O9m,O9m,?r9];apply ?OQ #[rfl,_,x.redo s1 sx n1 n2 z,yN,?IL,YM];have e:(tnS (?w9) s).1 j=?nT:=Lat.addR_row_ne (?QF i);rw[e];exact ?AQ
   . apply ?VN (λσ' H'=>?uN/\∃g a c,?uQ (?hD) (?hG) g a c/\?PN H' (?tC));ext a8
     . apply#[_,rfl,p,dx,fs,rfl,hp,?hY,_,rfl,_,rfl,_,rfl,_,rfl,?_];apply#[p,Af,r,b,_,n,W,?L,i,_,_,s,_,rfl,?kZ,lx,O9m,hi,O9m,O9m,O9m,h2,o1,h3,o2,ok.bo,λL g a c G fr kp _ sh z=>?_];exact ?Q7 #[rfl,g,a,c,sh,x.redo2 lx f1 f2 fr kp z]
     apply F7 λG fT=>?_;intro sq;let#[g,a,c,sh,y]:=fT;let#[yN,YM,ok3]:=ok.ble g a c sh
     have hd1:Hds W t ?f4 i (?tC).1:=λj hj1 hj2=>by
      have e:(?tC).1 j=?nT:=?EB (?QF spot) (?QF i) _ _ _ _;rw[e];exact ?AQ
     ext MQ;apply#[H0,p,q,M,n,W,t,i,_,?L,?h3,rfl,y,O9m,O9m,?m O9m,hd1,yN,?AG];apply ?OQ #[rfl,_,z,YM,?IL,ok3];rw[Zw _ _ _ _ _ _ (?QF spot)];exact hd1 j hj1 hj2
 apply F7 λG fT=>?_;intro sq;let#[s1,y,yN,hd1,YM]:=fT;ext MQ;exact#[H0,p,q,M,n,W,t,i,s1,i,?h3,rfl,y,hi,O9m,?B (?nS),hd1,yN,λG' z=>k _ _ z YM]
noncomputable abbrev Kf:Stmt:=Fd ?jW 3
def Nt:?T1 ?jR Kf:=Bi
def Wv[?x](F:E9 K ?x4 ?LM Kf f fd)[?w][?N7]:?TL 5 Zr:=by
 apply ?PB Nt;let#[H0,p,q,M,n,W,t,i,s,rfl,x,ok,k]:=h;ext sU;let ?j6:=x.ex;ext fA;apply#[_,(Ai (B6 qb8 rfl (wA ?g ?aV (Aa (Bh G0 ?lB Ak) (?OP (Nw Je Ak) (Nw Je Ak)))) (?OT 1 Nt.nd) (?TI Cj (?OP ?o ?hM)))),?_];apply#[_,rfl,p,Af,dx,fs,_,rfl,hp,?O,?eZ,l3,q,_,rfl,?G3,_,_,rfl,rfl,_,rfl,_,rfl,i+1,?tR,O9m,?_];clear lx hp l1 l2 l3 l4 l5
 let By4:?aQ:=λd σ G=>Ea λo1=>σ=?KO/\SX Af H0 G p q M n W t ?cT (?AI)
 apply tR (hi:=((i+1:Nat):Int)-1) (n:=i+1) By4 ?FY ?_ ?_
 . rintro d σ G hd C6
   ext U
   revert σ;ext A1;let ?j6:=y.ex;ext fA;rw[show((i+1:Nat):Int)-1-?II=((i-d:Nat):Int) by omega];let ?BV:=?M8;apply#[_,rfl,p,dx,fs,rfl,hp,?hY,_,rfl,_,rfl,_,_,rfl,rfl,?_];apply#[H0,p,q,M,n,W,t,i+1,?AI,i-d,i-d+1,rfl,y,O9m,O9m,?m O9m,yN,YM,?AG];rw[show i+1-(i-d+1)=d by omega]at z;exact#[_,rfl,z]
 . ext aR;ext A1;exact k _ y
noncomputable abbrev Gw:Stmt:=Fd ?k9 3
def Ct:?T1 [?a9,?mS,"gap","i","j"] Gw:=Bi
def Qy[?x](F:E9 K ?y3 ?E4 Gw f fd)[?w](Ky:K0 P w K mg ?d Aj ?wH ?v7 4 (?OZ BY)):?TL 5 bZ:=by
 apply ?PB Ct;let#[H0,p,L,R,nm,n,w,m,l,r,f,Sv,rfl,x,mn,mw,v0,vs,k]:=h;let#[LD,Al1,rC]:=T.x_GAPS;let ?p8:=x.sm;ext lM
 apply#[_,(Ac (Ao (i:=1) ?l6 ?lB)
  (Ac (B6 qb8 rfl (?P6 U9 (Ku (v:=?f LD) ?g Al1 rfl)) (?OT 2 ?l6) (Ai (B6 qb8 rfl (?PJ (Bh G0 ?o ?p)) (?OT 3 ?l6) (Ai (Br (C7 ?l ?J Ky hr (?OP ?r (Bh Cq ?r ?p))))))))
  (Ai (B6 qb8 rfl (?U9 ?a0) (?OT 3 ?l6) (Ai (B6 qb8 rfl (CB ?g ?aV (Aa (?WV ?r) ?a0)) (?OT 4 ?l6) (Ai (Br (C7 ?l ?J Ky hr ?lH))))))))),?_]
 ext I
 apply ?OO (?VM [?q,?iR,none,none,none] ?aZ)
 . exact#[_,rfl,p,Aj,kL,kH,_,rfl,hpa,?J,?eX,zA,nm,_,rfl,?m (?wY),?OQ #[by rw[qa4,Iu];rfl,rfl]]
 ext aS;apply ?OO (λσ' H'=>Ko λ ?F1=>?UI o3 none/\∃(d:Nat) (f:?h2) (l r:?eW),d<=5*m/\?o6/\?TU H' l)
 . apply#[LD,rfl,#[_,rC H],?_]
   let By3:?aQ:=λg σ' G=>Ko λ ?F1=>?UI o3 none/\∃(d:Nat) (f:?h2) (l r:?eW),d<=g*m/\?LU
   apply mK (K:=K) (a:=LD) (xs:=(([32,16,8,4,2]:?iH).map ?S)) By3 #[?k,?k,rfl,0,f,l,r,O9m,v0,x] (λg σ G _ _=>rC G) ?_ ?_
   . rintro g y σ G hy C6
     ext U
     let ?AZ:=C6
     have hg:∃gp:Nat,y=?e ?uO/\1<=gp/\gp<=32/\g<5:=by
      match g,hy with
      | 0,hy=>cases hy;exact(?QR 32)
      | 1,hy=>cases hy;exact(?QR 16)
      | 2,hy=>cases hy;exact(?QR 8)
      | 3,hy=>cases hy;exact(?QR 4)
      | 4,hy=>cases hy;exact(?QR 2)
      | g+5,hy=>simp at hy
     let#[gp,rfl,g1,g2,g5]:=hg;apply#[_,rfl,_,rfl,_,_,rfl,rfl,_,rfl,O9m,O9m,?_];apply Ch (lo:=0) (n:=(?rL-?uO).toNat) (λi σ' G=>Ea λ(o3:?p1)=>σ'=[?q,?iR,?T7 ?uO,o3,none]/\∃(d:Nat) (f:?h2) (l r:?eW),d<=g*m+i/\?LU) #[o3,rfl,d,f,l,r,hd,hv,z] ?_ ?_
     . rintro i σ G hi ⟨o3,rfl,d,f,l,r,hd,hv,z⟩;rw[qi6];ext NK
       have hm5:g*m+m<=5*m:=by
        have:=qc0 m (show g+1<=5 from g5);rw[qf7,qf5]at this;exact this
       apply#[_,rfl,p,dxc,fsc,rfl,hpc,?E0,_,rfl,_,rfl,_,rfl,_,_,rfl,rfl,?_];let ?K7:=?SI (i+gp);apply#[H0,p,L,R,nm,n,w,m,i,i+gp,l,r,f,rfl,z,O9m,O9m,mn,mw,o1,?MD,?H2]
       . exact#[_,rfl,d+1,f,l,r,O9m,o2' tM,z]
       . exact#[_,rfl,d+1,_,_,_,O9m,?DA,z']
     . rintro σ G ⟨o3,rfl,d,f,l,r,hd,hv,z⟩;apply#[_,_,rfl,d,f,l,r,?_,hv,z];rw[qf7,qf5];omega
   . rintro σ G ⟨o2,o3,rfl,d,f,l,r,hd,hv,z⟩;exact ?OQ ?AZ
 apply QK λo2 o3 G fT=>?_;intro sq;let#[d,f,l,r,hd,hv,z]:=fT;apply ?EO;apply Ch (lo:=0) (n:=(?rL).toNat) (λi σ' G=>Ko λ(o3 o4:?p1)=>?UI o3 o4/\∃(d:Nat) (f:?h2) (l r:?eW),d<=5*m+i*m/\?o6/\?AM m i f/\?yZ) #[o3,?k,rfl,d,f,l,r,O9m,hv,λa b ha=>O9m,z] ?_ ?_
 . rintro i σ G hi ⟨o3,o4,rfl,d,f,l,r,hd,hv,hc,z⟩;rw[qf9]at hi;rw[qi6]
   have him:i*m+m<=m*m:=by
    have:=qc0 m (show i+1<=m from hi);rw[qf7,qf5]at this;exact this
   apply#[_,rfl,_,_,rfl,rfl,_,rfl,_,_,rfl,#[O9m,O9m,O9m,O9m],?_];apply Ch (lo:=?aP+1) (n:=?DX) (λj σ' G=>Ea λ(o4:?p1)=>?UI ?e1 o4/\∃(d:Nat) (f:?h2) (l r:?eW),d<=5*m+i*m+j/\?o6/\Lat.ChainAt m i (?m4) f/\?yZ) #[o4,rfl,d,f,l,r,O9m,hv,hc.at,z] ?_ ?_
   . rintro j σ G hj C6
     ext U
     let#[o4,rfl,d,f,l,r,hd,hv,hc,z]:=C6;rw[show ?aP+1+(j:Int)=((?m4:Nat):Int) by omega];ext NK;apply#[_,rfl,p,dxc,fsc,rfl,hpc,?E0,_,rfl,_,rfl,?_];let ?K7:=?SI (?m4);apply#[H0,p,L,R,nm,n,w,m,i,?m4,l,r,f,rfl,z,O9m,O9m,mn,mw,o1,?MD,?H2]
     . exact#[_,rfl,d+1,f,l,r,O9m,o2' tM,hc.skip tM,z]
     . exact#[_,rfl,d+1,_,_,_,O9m,?DA,hc.step O9m O9m sh.pair,z']
   . rintro σ G ⟨o4,rfl,d,f,l,r,hd,hv,hc,z⟩;rw[show i+1+?DX=m by omega]at hc;apply#[_,_,rfl,d,f,l,r,?_,hv,hc.next,z];rw[qf7,qf5];omega
 . rintro σ G ⟨o3,o4,rfl,d,f,l,r,hd,hv,hc,z⟩;rw[qf9]at hc;exact k d f l r _ hv hc z
noncomputable abbrev Fa:Stmt:=top 14
def Md:?v ?rU ?rU (Ar Fa):=Bi
def Me[?x](F:E9 K ?pR ?pR Fa f fd)[?w][?NP]:?SP ?rU Gp:=by
 apply ?PB Md;let#[a,b,xs,n,ms,rfl,hL,hb,hm,hn,kq]:=h;apply(?WA (Az (?P6 m9 ?g) T.n_any DB (?WZ (B8 (N':=["k",?X,?cL]) (cap:=[none,?jP,?jL]) ?g ?aB (?U9 ?aF) (?T5 Az2) ?aI (?P3 K7 (Aa ?o (?X8 ?l)))))));ext zR
 let By2:?aK:=λi zs τ H1=>By ?jC (H1 D=?oT) (zs=(?K5 ?uP).map V.bl) (?PV [o,?j,?z])
 apply Kc By2
  ?hO ?_ ?_
 . rintro i zs τ H1 hi C6;ext lU;intro s1 D7 hzs o Er;have hi2:i<n:=O9m
   apply#[_,rfl,_,rfl,_,rfl,a,b,xs,_,ms,rfl,?f1,?hK,hm,?mI];apply#[?FJ,?cQ (by rw[hzs,qa4,qa4,qp7];omega),(?iS).turn hD,Ab,?_,_,rfl];rw[qk9,qb4,qb4,hzs,show ?oX=?aP by omega];rfl
 . rintro zs τ H1 ⟨s1,D7,hzs,_⟩;rw[qf9]at hzs;apply#[D,(?v2 n).map ?uP,rfl,.of (by rw[D7,hzs]),?_];rw[List.any_map];exact kq _ s1
noncomputable abbrev Tr:Stmt:=top 29
def GI:?v ?hR ?hR (Ar Tr):=Bi
def GU[?x](F:E9 K ?r5 ?r5 Tr f fd)[?w](Km:Has P w K mg ?d ?H5 ?hR 1 (lR K))(Na:Has P w K mg ?d ?sD [?i0] 5 (Zo K)):?SP ?hR Uq:=by
 apply ?PB GI;let#[v,xs,rfl,hL,hs,Da,k]:=h;apply(?SH Km (Pa (Kv Ac9 (?T6 Na ?aX) JK ?s)));apply#[_,rfl,v,xs,rfl,hL,Da,_,rfl,?_];apply ?SK ?g;exact#[_,rfl,v,xs,rfl,hL,hs,Da,λH1 s1=>#[rfl,?i3]]
noncomputable abbrev Kg:Stmt:=Fd ?jW 1
def Jg:?v [?a9,"i",?yK] ?jR (Ar Kg):=Bi
def Ww[?x](F:E9 K ?yR ?F7 Kg f fd)[?w](N7:Has P w K mg ?d ?AH [?g1] 1 (Uv K))[?zC](M8:K0 P w K mg ?d Af ?wG ?t8 5 (?OZ GB)):Bv P w K mg ?d Eo 6 f fd ?jR (?OZ Zs):=by
 apply ?PB Jg;let#[H0,p,q,M,n,W,t,i,s0,I,rfl,x,hi,P,ht,k]:=h;ext sU
 apply#[_,(Ac (?PH Jg.nd Ak)
  (Ac (U1 qb8 (?TR (Bf Qv ?p ?o ?s) (?RM LU)) (Ac (Bx (?RM Fb) (?TI M8 (Aa ?p ?a0)) Bj)
  (Ai (?PH Jg.nd (?WV ?p)))))
  (Ac (?TH G6)
  (Ac (?TH G6)
  (Ac (Br (G6 (K:=K) qd7 qs9 qs8 Wy ?V (?OP ?p (?T6 N7 ?jM))))
  (?WH (?P0 Qv (?VJ ?gI ?gI)) (?TI Cz (?VI (Es (?X8 O9)))))))))),?_]
 ext I
 apply ?P1 [?q,?bK,?T7 ?D8];ext aS;apply ?OO (λσ' H'=>Nl λspot st s=>Hz ?mN (SX Af H0 H' p q M n W t i s) ?CS ?KA (Ja W (?gF) st) ((spot<i->st<?hI)))
 . apply#[λm σ' G=>Ko λspot s=>C9 ?mN (?PN G s) ?CS ?KA (m=i-spot),#[_,0,s0,rfl,x,P.start,?bL,rfl],?_];rintro m σ G C6;apply WV ?_;intro _;let#[?L,s,rfl,y,hI,hs,rfl]:=C6;let#[st,hb]:=Ja.ex (P.ok ?L s hs hI);let ?j6:=y.ex;ext fA;ext sT;ext zS;apply#[_,rfl,_,rfl,_,_,rfl,rfl,_,rfl,?_];ext bR
   . have hlt:spot<i:=by have:?sH<?aP:=?Z
                         omega
     apply#[_,rfl,p,Af,dx,fs,_,rfl,hp,?O,?eZ,l3,_,rfl,q,_,_,_,rfl,rfl,?vC,?SL hlt,_,rfl,p,Af,dx,fs,_,rfl,hp,?O,?bZ,l1,_,rfl,r,_,_,_,rfl,rfl,?dY,?j2,ci,W,st,_,rfl,OV,hb,O9m,_,_,rfl,rfl,_,rfl,?_];apply ?DU
     . have hle:t spot<=st:=by have:?E7:=?hZ
                               omega
       apply#[λσ' G'=>Ko λlQ s'=>By (σ'=[?q,?bK,?c (?e ((lQ:Nat):Int))]) (?FX) (I lQ s') (lQ=?h3),?_,?_]
       . rintro σ' G' ⟨lQ,s',rfl,z1,z2,rfl⟩;exact#[i-?f4,O9m,?h3,s',rfl,z1,z2,hlt,rfl]
       apply Am (t:=?w3) (λσ' G'=>?u0/\∃s',?FX/\I ?f4 s') ?_ ?b1;ext a8
       . apply#[_,rfl,p,Af,dx,fs,_,rfl,hp,?O,?eZ,l3,_,rfl,q,_,_,_,rfl,rfl,?vC,?SL hlt,_,rfl,p,Af,dx,fs,_,rfl,hp,?O,?bZ,l1,_,rfl,r,_,_,_,rfl,rfl,?dY,?j2,ci,W,st,_,rfl,OV,hb,O9m,rfl,_,rfl,?_];apply ?c6 (λh3=>?_) (λh3=>?_)
         . have he:?hI=st:=by
            have:?pI=?xS:=?xV
            omega
           apply#[_,rfl,p,dx,fs,rfl,hp,?hY,_,rfl,_,rfl,?_];apply#[H0,p,q,M,n,W,t,?L,i,s,I ?f4,rfl,y,hlt,hi,P.meet ?L s hlt hI (?A7) (by rw[he];exact hb.2.1),λG' s' z1 z2=>?_];exact ?Q7 #[rfl,s',z1,z2]
         . have he:¬?hI=st:=by
            have:¬?pI=?xS:=?xV
            omega
           exact ?Q7 #[rfl,s,y,P.skip ?L s hlt hI ?A7]
       rintro _ G' ⟨rfl,s',z1,z2⟩;exact#[_,rfl,_,_,rfl,rfl,?h3,s',rfl,z1,z2,rfl]
     . have hle:¬t spot<=st:=by have:¬?E7:=?hZ
                                omega
       exact ?OQ #[?L,st,s,rfl,y,hI,hs,hb,λ_=>O9m]
   . have hlt:¬spot<i:=by have:¬?sH<?aP:=?Z
                          omega
     exact ?OQ #[?L,st,s,rfl,y,hI,hs,hb,λz=>?r2 z hlt]
 apply YB λspot st s G y hI hs hb hex=>?_;intro sq;let ?BL:=y.ex;ext fA;ext sT;let ?oH:=lx.bk;let ?FD:=lx.refs;have rb:=lx.ne;let#[ci,rci,qH,mci,OV]:=?qP;let#[di,rdi,edi,mdi,hdi]:=?FA
 have six:∀l:Nat,i<l->seqIndex? ?q4 l=?c i:=λl hl=>by
  unfold seqIndex?;simp only[show ¬?q4<0 by omega,if_false,qf9]
  first | (rw[?oY]) | (rw[?cH ?mJ]) | (ext c2)
 apply ?OO (λσ' H'=>Ev ?mN ((∀a,a≠r->H' a=G a)) (?VP r (?WO ci ?fH)))
 . apply#[_,rfl,p,Af,dx,fs,_,rfl,hp,?O,?bZ,l1,?m #[rfl,_,?dY],_,rfl,_,rfl,p,Af,dx,fs,_,rfl,hp,?O,?bZ,l1,?m #[rfl,_,?dY],_,rfl,r,_,_,i,_,rfl,rfl,?jS,O9m,O9m,six _ (by ext sV),qH,?_];apply(?VC r (by ext O6));ext O6
 apply LK λG1 e1 r1=>?_;intro sq;apply ?OO (λσ' H'=>Ev ?mN ((∀a,a≠b->H' a=G1 a)) (?iJ=?TC (?WO di ?jI)))
 . have hp1:G1 p=_:=(e1 _ pr).trans hp;have b1:G1 b=_:=(e1 _ rb.symm).trans ?xU;apply#[_,rfl,p,Af,dx,fs,_,rfl,hp1,?O,?nU,l2,?P7 b1,_,rfl,_,rfl,p,Af,dx,fs,_,rfl,hp1,?O,?nU,l2,?P7 b1,_,rfl,b,_,_,i,_,rfl,rfl,b1,O9m,O9m,six _ (by ext sW),edi,?_];apply(?VC b (by ext O7));ext O7
 apply LK λG2 e2 b2=>?_;intro sq;have r2:=(e2 _ rb).trans r1;have e02:∀a,a≠r->a≠b->G2 a=G a:=λa h1 h2=>(e2 a h2).trans (e1 a h1);have hp2:=(e02 _ pr pb).trans hp;have qr:q≠r:=λz=>lx.nr ?HO;have qb:q≠b:=λz=>lx.nb ?HO;have q2:=(e02 _ qr qb).trans y.st;let#[ya,ma]:=xa.move hi hs rci r2 λa ha=>e02 a (?wL).1 (?wL).2.1;let#[yb,mb]:=xb.move hi hs rdi b2 λa ha=>e02 a (?nQ).1 ?JB;let ?FL:=?P6 ya.row ?j9
 have A69:Lat.moveR s.1 i ?L ?L=?gF:=by
  rw[Lat.move_row];unfold Lat.mvI;rw[?oY,?c9]
 rw[A69]at hcs;apply ?OO (λσ' H'=>?u0/\SX Af H0 H' p q M n W (?AB t ?L st) ?cT (?FR))
 . apply#[_,rfl,p,Af,dx,fs,_,rfl,hp2,?O,?eZ,l3,?P7 q2,_,rfl,_,rfl,p,Af,dx,fs,_,rfl,hp2,?O,?bZ,l1,_,rfl,r,_,_,_,rfl,rfl,.of r2,Bo (by rw[cJ,Wz]at ecs;exact ecs),cs,W,st,_,rfl,hcs,hb,O9m,?_];apply#[q,_,?L,_,rfl,rfl,q2,by rw[Bu];exact hs,?KN,?OQ ?l3];rw[jB hs];have qp:p≠q:=Fo hp y.st ?mP;apply#[#[r,b,#[#[dx,fs,by rw[Al qp];exact hp2,l1,l2,l3,l4,l5],#[_,ya.put qr.symm λa ha z=>(?KK).2.2 ?ED,λa ha=>?KK],#[_,yb.put qb.symm λa ha z=>(?L7).2.2 ?ED,λa ha=>?L7],rb,lx.nr,lx.nb,?pP],f1,f2],Ab,λa o e=>?_,y.fp,y.fq,y.mq,#[uX,UW,O9m]]
   . by_cases haq:a=q
     . rw[haq,Ab]at z;cases z
     . rw[Al haq,e02 a (λe=>lx.nr ?FV) (λe=>lx.nb ?FV)]at z;exact lx.nn a ha z
   . rw[Al (Aq e y.fq),e02 a (Aq e f1) (Aq e f2)];exact y.same _ _ e
 apply F7 λG3 z=>?_;intro sq;let#[r3,b3,l3x,_]:=z.ex;let#[dx3,ZD,hp3,l1,l2,l3,l4,l5]:=l3x.ob;let#[as3,xa3,na3]:=l3x.rw;let#[c3,_,ec3,_,hc3]:=?P6 xa3.row ?j9;have tU:(?FR).1 ?L=?gF:=A69;rw[tU]at hc3
 have est:?AB t ?L st ?L=st:=by
  unfold Lat.insT;rw[?oY,?c9]
 apply#[_,rfl,p,Af,dx3,ZD,_,rfl,hp3,?O,?bZ,l1,_,rfl,r3,_,_,_,rfl,rfl,.of xa3.2.1,Bo ec3,_,rfl,p,Af,dx3,ZD,_,rfl,hp3,?O,?eZ,l3,_,rfl,q,_,_,_,rfl,rfl,.of z.st,?s7,c3,_,_,_,rfl,rfl,hc3,Bo (by rw[est];exact Co hb.2.2),_,_,rfl,rfl,_,rfl,?_];ext zV
 . have h5:s.1 i st<0:=?mM
   apply#[_,rfl,p,dx3,ZD,rfl,hp3,?hY,_,rfl,?bQ,?x5];have s1:?h G3 (?yI):=?lE;have hT:?QA ?yI (.mi ?L):=#[T1,_,rfl,?bV,?JH]
   generalize ?yI=G4 at s1 hT;apply#[p,?iP,Af,r3,b3,_,n,W,_,_,.mi ?L,rfl,?kZ,l3x.keep s1,hT,?j9,?j9,O9m,O9m,λr' b' G5 sx n1 n2 w=>?_];apply k _ ?L st s hs hI hb hex ((z.redo s1 sx n1 n2 w).re ?_);rw[Lat.insS,?cH (by rw[tU];exact h5)];rfl
 . have h5:¬s.1 i st<0:=?mM
   apply k _ ?L st s hs hI hb hex (z.re ?_);rw[Lat.insS,?b4 (by rw[tU];exact h5)]
noncomputable abbrev Z4:Stmt:=top 46
def Ru:?v [?X,?bU,?d1,?cG,?b7] ?iC (Ar Z4):=Bi
def OB[?x](F:E9 K ?qR ?qR Z4 f fd)[?w](Fj:Has P w K mg ?d ?pR ?rU 6 (Gp K))(T7:Has P w K mg ?d ?pZ ?vZ 2 (Us K)):?SD 7 Wg:=by
 apply ?PB Ru;let(?SM #[kc,Yu,hch]):=h;ext lR
 apply#[_,(Ac (Bx (?VD Fj (?WR ?o (Ku (v:=?e 4) ?g I0 ?bG))) ?i9 Bj)
  (Ac (?PH Ru.nd G9)
  (Ac (Qt (?X2 (?OS (?TM 3 Ru.nd) (?TM 4 Ru.nd)) (Ai (?WF T7 (Aa ?p (Aa ?fP ?hN))))))
  ?jE))),?_]
 ext I
 apply#[_,rfl,_,rfl,a,b,xs,4,ms,rfl,hL,hb,hm,?E,?B6];have hany:((?v2 4).any ?uP)=true:=qq7.mpr #[kc,qe9.mpr Yu,hch];ext lZ;rw[hany];ext dI;have hL1:=?f1;have hb1:=?hK;apply ?bM;have Yp:b≠D:=Aq hb1 hD;have s2:?h H1 (?LA):=?f2;have hL2:=?F s2 hL1;have hb2:=?Q6 hb1;generalize hH2:?LA=H2 at s2 hL2 hb2;have Nd:H2 D=?c ?h7:=by rw[←hH2];exact Ab
 apply ?QQ ?bJ hb2;ext zT
 let By1:?aQ:=λi σ G=>Ko λo1 o2=>By (σ=[?j,?z,?H,o1,o2]) ?AY (?W6 G (?z2)) ((∀c q,?k7->?gW->H2 c=?cV->?mH))
 apply Sa (d:=b) (o:=o) (kvs:=?bJ) By1
  ?LH (λi σ G _ hz=>?JW) ?_ ?_
 . ext cY;exact Nd
 . intro c q n1 n2 e;rw[?kK];exact e
 . rintro i kk x σ G p hx C6 hp
   ext U
   ext lS;intro o1 o2 V6 Eu OR Er;ext gX;have npb:b≠p:=Aq V6 hp;have npD:D≠p:=Aq Eu hp;have hlt:?xQ:=?lA;have hqd:?lC=q:=?EP
   have hpart:=qd3.mp hch q ?gN
   have hin:0<=q.1/\q.1<?jX:=by
    unfold Jc at hpart;rw[qb7]at hpart;exact GO hpart.1
   have sp:?h G (upd G p ?o8):=?eL
   have kD:?JT:=by
    have e1:Oh b H2 (upd H2 b ?d8):=?u8
    have l1:=?h9 e1 hb2 hL2;have d1:(upd H2 b ?d8) D=?c ?h7:=by ext cY;exact Nd
    have e2:Oh D (upd H2 b ?d8) G:=λc r n e=>by
     ext fB
     . subst z;rw[Ab]at e;cases e;exact V6
     . rw[?e4]at e;exact ?D2
    exact ?h9 (m:=[]) e2 d1 l1
   let#[us,v,qF,hat,tv]:=?j1 (?F sp kD) ?qC ?n6;ext iT
   have hfl:?r1<=4:=by
    ext O1
    . exact ?vT
    . rw[z];exact ?bL
   have hbl:=cG h4 ms i;apply#[_,rfl,_,rfl,_,rfl,a,us,_,v,rfl,rfl,qF,hat,_,rfl,D,v,?z2,?k6,q.2,rfl,?RX Eu,tv,O9m,λG2 sG2 HQ=>?_];apply#[_,_,rfl,sG2 _ _ Yp (?RX V6),?_,?v0]
   . rw[HQ];show _=?c (HO.dK (cK (lD (?z2) (?yS) (?lC).2)));rw[hqd]
   . exact sG2 c r n2 (?RX (?xN))
 . ext aR;apply X0 ?_;intro o1 o2 V6 Eu OR Er;rw[Kn]at Eu;apply#[V6,_,rfl,kq D _ (?m1 hD) (?jJ) (?wC)];ext fB
   . ext iU
   . rw[?e4];exact OR c q z (Aq ?kE hD) (?Q6 ?kE)
noncomputable abbrev Wl:Stmt:=top 57
def Ot:?v [?a6,?bB,?nV,"stairs","i",?hS] ?wW (Ar Wl):=Bi
def JM[?x](F:E9 K ?n5 ?n5 Wl f fd)[?w](W5:iU P w K mg ?d Af ?e8 2 (?OZ gC))[?NI](Kk:K0 P w K mg ?d Af ?yR ?jR 6 (?OZ Zs))(Kj:K0 P w K mg ?d Af ?x4 ?cA 5 (?OZ Zr)):Bv P w K mg ?d Eo 7 f fd ?wW (?OZ Xv):=by
 apply ?PB Ot;let#[v,L,r,b,sv,N,n,w,M,P,PB,J,rfl,hv,lx,hn,hw,TJ,j0,jt,k]:=h;let(?S8 Yt Pi):=?j4;ext fA;let#[ps,xp,np]:=lx.rw;let ?oH:=lx.bk;have nN:?KF:=?SU lx.nn
 apply#[_,(Ac (Ao (i:=3) Ot.nd (Nz W5 hr ?g T.m_Stairs (Aa (B8 (N':=[?g1,"paper"]) (cap:=?AJ) ?g ?aB (?WM (?OP ?l (Bd (K:=K) ?p))) (?TF SA SA) ?aI (?W9 (Bh (?WY W3) ?l ?o))) (?VI (?TT (?WZ (?P6 Bd ?p)))))))
  (Ac (B6 qb8 rfl (?PJ ?fK) (?OT 4 Ot.nd) (Ac (Br (C7 ?r ?O Kk hr ?hN))
  (Ai (Br (Ny ?r ?O Kj hr)))))
  (Ac (Ao (i:=5) Ot.nd (?X5 (Aa (?WQ (?P6 Cd (Bd (K:=K) ?r)) (?W9 (Fh ?g6 ?l (Fr ?o) Ir))) (?VI (?P6 Bd ?r)))))
  (?VG (Es (Aa (?WQ (?P6 Cd (Bd (K:=K) ?r)) (?W9 (?X1 Ir ?o))) ?cF)))))),?_]
 ext I
 apply ?OO (λσ' H'=>Ko λp q=>?U5 none/\SX Af H H' p q (λa=>?rZ) n ?i8 (λ_=>0) 0 (?D5,PB))
 . apply#[_,rfl,_,rfl,L,Ag,dx,fs,_,rfl,hp,?d6,?s9,l1,ta,r,rfl,#[_,Yt],#[_,?GI],?bM]
   apply cX (K:=K) (a:=ta) (b:=r) (xs:=us) (ys:=ps.map ?bY) (n:=n) (by rw[Ys,qa4,xp.1,qv0]) (λi zs τ H1=>Ea λcs=>By (zs=cs.map ?bY) (cs.length=i) (?dC H H1 D cs ?i8 (?D5)) (?R9 [o1,o2]))
    #[[],rfl,rfl,?uT hD,?k,?k,rfl] (λi zs τ H1 _ hz=>by let ?LJ:=hz;exact#[?dS Yt,?dS (?GI)]) ?_ ?_
   . rintro i x y zs τ H1 pr hx hy ⟨cs,rfl,hcl,R,o1,o2,rfl⟩ hpr;let#[hi,bx,rfl,hbx]:=Pi i x hx;let#[cy,_,ey,_,hcy]:=?P6 xp.row hi;rw[ey]at hy;cases hy;have sp:?UU pr [?f bx,?f cy]:=?y hpr;ext O4;apply#[_,rfl,_,rfl,bx,cy,_,_,rfl,rfl,sp.seq (?dS hbx),sp.seq (?dS hcy),Cb (by rw[Bu,Bu];omega),?fI];have sE:?h (?Q4 pr (?C [?f bx,?f cy])) (upd (?Q4 pr (?C [?f bx,?f cy])) E (?n (VI w (M i)++VI n (P i)))):=?iN;apply#[sE _ _ (?RX R.at),?gH,cs++[E],?rV,?FG,?_,_,_,rfl];apply ?r7 (sp.free hE) (?I6 sE) ?_;rw[hcl,Ab,lE (h:=?JR w M P i) (λc hc=>Lat.beside_lo hc) (λa _=>Lat.beside_hi w M P i a)]
   rintro zs τ H1 ⟨cs,rfl,hcl,R,_⟩;have hp1:=?KH;apply#[_,rfl,L,Ag,dx,fs,_,rfl,hp1,?d6,?o2,l2,b,_,rfl,?UK ?cS ?xU,?LI];intro p vB np' YO Ad5;have s2:?h H1 (?FE):=?y hB;have hB2:upd H1 B (?n (?jI)) B=?yQ:=Ab;generalize ?FE=H2 at s2 hB2 np' YO;have s3:?h H2 (?EZ):=?n4 np';have UX:=(?mX s2).trans s3;have f2:∀a,?LX->?iO:=λa e=>(?mX s2).free e;apply#[p,vB,_,_,rfl,Ab,λq H4 fs' hq hfs sx hq4 R7=>?l3];generalize ?EZ=H3 at s3 UX hq sx;have f3:∀a,?A8->?iO:=?GE;have st:∀a o,H2 a=?cR->?EK:=?UQ np';have xc:=(?x2 s2)
   have VE:TA H2 B bs n n PB:=#[xb.1,hB2,λi c e=>?Q6 (?cS _ _ (?kH i c e))]
   have hHB:?L0:=?A4 hB;have Bu3:=?FT
   have q2:?W0 H2 q:=?tD hq;have nM:∀a,H2 a≠none->?rS->¬(?rZ):=λa h1 h2 h3=>h3.elim (λz=>h1 (z▸q2)) h2;apply ?OQ #[p,q,rfl,#[#[D,B,#[#[vB,fs',R7,?_,?_,?_,?iL,?_],#[cs,xc.same st,?cC],#[bs,?x6 st,?cC],?_,?_,?_,?pP],?kX,hHB],hq4,λa o e=>?CL,f2 _ np',f3 _ hq,?dN,#[O9m,O9m,?bL]]]
   . rw[hfs];ext aL
   . rw[hfs];ext aL
   . rw[hfs];ext aL
   . rw[hfs,As,?eR,As,?eR,As,?eR];rfl
   . rw[hfs];exact qa5 ?g7 (qa5 ?qF (?RJ (qj0 ?qF)))
   . ext NJ;exact#[z2,Aq z3 hB,nM _ (by rw[?Q6 z3];ext lV) (nN _ z1)]
   . have:=?tI a ha;apply#[λz=>this ?uU,λz=>this (z▸hHB),nM a (VE.there.2 a ha) ?FN]
   . exact Aq R.at hB
   . exact nM D (by rw[Bu3];ext lV) (nN _ ?kX)
   . exact nM B (by rw[hB2];ext lV) (nN _ hHB)
   . rcases ha with rfl | ha
     . rw[hq4]at z;cases z
     . cases e:H a with
       | none=>exact ?LN
       | some o=>rw[?CL]at z;cases z
 apply QK λp q H1 x0=>?_;intro sq;apply ?OO (λσ' H'=>?VW (?UW H' n) n)
 . apply(?TY ta (x0.same.seq Yt));apply Ch (lo:=0) (n:=(?IK:Int).toNat) (λi σ' G=>?VW (?UW G i) i) #[?k,_,_,rfl,x0,j0 _] ?_ ?_
   . ext lY;revert σ;apply YX ?_;intro o4 t s y hJ Er;rw[qf9,Ys]at hi;rw[qi6];let#[I,hP,hD]:=TJ.step i t s hi hJ;let#[r3,b3,ly,_]:=y.ex;let#[dx3,ZD,hp3,_,_,_,m4,_]:=ly.ob;apply#[_,rfl,p,dx3,ZD,rfl,hp3,?JA,_,rfl,H,p,q,_,n,w+n,t,i,s,I,rfl,y,hi,hP,jt i t s hJ,λG1 spot st s' hs hI hb hex z=>?_];let#[d1,d2]:=hD ?L st s' hs hI hb hex;let#[r4,b4,lz,_]:=z.ex;let#[dx4,fs4,R7,_,_,_,m5,_]:=lz.ob;apply#[_,rfl,p,dx4,fs4,rfl,R7,?DB,H,p,q,_,n,w+n,_,i,_,rfl,z,d1,λG2 z2=>?_];exact#[_,_,_,rfl,z2,d2]
   . ext aR;apply YX ?_;intro o4 t s y hJ Er;rw[qf9,Ys]at y hJ;exact ?OQ #[o4,t,s,rfl,y,hJ]
 apply YC λo4 t s G y hJ=>?_;intro sq;let#[r,b,ly,f1,f2]:=y.ex;let ?w5:=ly.ob;let ?yO:=ly.rw;let ?oH:=ly.bk;have s0:=y.same;apply ?OO (λσ' H'=>Ko λ(L' E:Addr)=>C9 (σ'=[?dL,?cW,?bD,?q,o4,rS L']) (?kN) (?TS L') (?TS E) (LX H' Ag L' E b ?k n n ?sY N))
 . apply#[_,rfl,p,Af,dx,fs,_,rfl,hp,?O,?bZ,l1,r,rfl,#[_,?dY],?fI];have xa':=?jS
   let By0:?aK:=?PL (?dC G G1 E cs n (?KY))
   apply ?PZ By0 #[[],rfl,rfl,?uT hE,?k,rfl]
   . ext MU
     ext NN;apply(?RN hc);have sF:?h G1 (?RR ?HJ ?k):=?y hF;ext MS;rw[hcl,Ab,XW]
   ext NU;have hp1:=?KH;apply#[_,rfl,p,Af,dx,fs,_,rfl,hp1,?O,?nU,l2,?_];intro L' EW nL YO Ad5;have s3:?h G1 (?xR):=?n4 nL;apply#[L',EW,Ag,_,_,rfl,?dN,Ab,λH4 fs' hfs hH4=>?l3];have sx:?bF L' (?xR) H4:=by rw[hH4];ext OF
   have hL4:H4 L'=?c (?N Ag EW fs'):=by rw[hH4];exact Ab
   clear hH4;generalize ?xR=G3 at s3 sx;have st:∀a o,G1 a=?cR->?EK:=?UQ nL;have nN':∀a,?SO G->?rS:=λa e=>nN a (?s2 e);apply ?OQ #[L',E,rfl,?mX st,?s2 (?A4 nL),?s2 ?kX,#[#[EW,fs',hL4,?_,?_,?_,?iL,?_],#[cs,?x2 st,?cC],#[bs,(xb.same ?cS).same st,?cC],?_,nN' _ ?kX,?_,?pP]]
   . rw[hfs];ext aL
   . rw[hfs];ext aL
   . rw[hfs];ext aL
   . ext MT
   . ext NC
   . ext NJ;exact#[z2,λz=>?B4 ?H7,nN' _ z1]
   . exact#[λz=>?tI a ha ?uU,?JB,λz=>?FN (?B z)]
   . exact λz=>?B4 ?uU
   . exact λz=>ly.nb (?B z)
   . cases e:H a with
     | none=>exact ?LN
     | some o=>rw[st _ _ (?cS _ _ (s0 _ _ e))]at z;cases z
 apply qK λL' E G4 s4 fL fE lx4=>?_;intro sq;have R7:=?RB s4;have xa':=s4 _ _ ?jS;apply#[_,rfl,p,Af,dx,fs,_,rfl,R7,?O,?bZ,l1,r,rfl,(?VB xa'),?bM]
 let Bx9:?aK:=?PL (?dC G4 G1 D cs w (λx a=>s.1 x a))
 apply ?PZ Bx9 ?k8
 . ext MU
   ext NN;apply(?RN (s4.seq hc));have sF:?h G1 (?RR ?k ?HJ):=?y hF;ext MS;rw[hcl,Ab,A85]
 ext NU;apply#[_,rfl,?bQ,?JO];have s5:?h G1 (upd G1 tp (?C ?LD)):=?y htp;have YH:=?mX s5;exact k tp D L' E b cs t s _ ((?z3 s4).trans YH) hJ (?bV) (?x2 s5) (lx4.keep YH) ((?z3 s4).free ?kX) fL fE f2
noncomputable abbrev Mw:Stmt:=top 48
def Qk:?v [?X,?bU,"edge"] ?iC (Ar Mw):=Bi
def d6[?x](F:E9 K ?qT ?qT Mw f fd)[?w][?O2]:?SD 8 Sw:=by
 apply ?PB Qk;let#[a,b,xs,k,c,rfl,hL,hs,Da,hb,Yu,hc,hz,kq]:=h;have h4:=Rt hs;have en:=uF hs hc hz
 apply#[_,(Ac (?PH Qk.nd (?T6 R8 ?c0))
  (?WH (?P0 cC (Az pS ?aN qg2 ?aF)) ?i9)),?_]
 ext I
 apply ?OO (λσ' H'=>Ea λ ?e3=>?VU [?j,?z,?H] [])
 . exact#[_,rfl,_,rfl,a,b,xs,c,rfl,hL,hb,?RJ hc.ok.len,h4,#[k,Yu,hc.chain],λD H1 nD s1 hD=>?OQ #[D,rfl,s1,by rw[hD,en]]]
 apply Sq λD H1 s1 hD=>?_;intro sq;apply#[_,rfl,D,cK [],rfl,hD,_,_,rfl,rfl,_,rfl,?_];ext aY;exact kq H1 s1
noncomputable abbrev Lj:Stmt:=top 49
def Ke:?v [?X,"k","below","columns"] ?gB (Ar Lj):=Bi
def Yl[?x](F:E9 K ?m0 ?m0 Lj f fd)[?w][?zH][?sL][?lO](Q7:Has P w K mg ?d ?EU ["spots",?bU] 1 (Ss K))[?O2]:Bv P w K mg ?d Eo 8 f fd ?gB (Pz K):=by
 apply ?PB Ke;let#[a,xs,k,rfl,hL,Da,h4,h0,h5,kq]:=h;ext lR
 apply#[_,(Ac (?WF D9 (?OP ?o (?WV (?VO 4))))
  (Ac (Ao (i:=2) Ke.nd (?T6 Bs (?OP ?l (Bh G0 ?o Ak))))
  (Ac (lU (N':=[?cG,"below",?X]) (cap:=[none,?oP,?jP]) (i:=3) Ke.nd ?g (by ext OK) ?g ?aB (?P6 Cd (?T6 Bs ?c0)) (?T5 Ae5) ?aI (?W9 (?T6 Q7 (?OP ?o (An R8 hr (?WW ?p (wD (RD ?l Ak vW) ?g ?g ?mP (Nat.le_of_ble_eq_true rfl))))))))
  (?VG (?T6 C8 (?OP ?r ?hV)))))),?_]
 ext I
 apply#[_,rfl,_,_,rfl,rfl,k,5,rfl,h0,h5,?_];apply ?P1 [?j,?M,none,none];ext aS;apply ?OO (λσ' H'=>Ea λ(B:Addr)=>Ev (σ'=[?j,?M,rS B,none]) ?a7 (?VP B ((?l2).map ?S)))
 . apply#[_,rfl,_,rfl,_,_,rfl,rfl,a,k-1,xs,rfl,hL,Da,λB H1 hB s1 hB1=>?_];exact ?OQ #[B,rfl,s1,hB1]
 apply Sq λB H1 s1 hB=>?_;intro sq;have hL1:=?f1;have bl:?qL<=1000:=?uR;have cl:?IC:=?uR;apply ?OO (λσ' H'=>Ko λ(C:Addr) ?uE=>Ev (σ'=[?j,?M,rS B,rS C]) (as.length=?o5) (?dC H1 H' C as ?qL (?U3 0)))
 . apply#[_,rfl,_,rfl,a,k,xs,rfl,hL1,Da,λP H2 hP s2 hP2=>?_];apply#[P,rfl,(?VB hP2),?bM]
   let Bx8:?aK:=λi ys τ G=>Ea λ ?uE=>By ?o1 ?qU (?dC H2 G D as ?qL (?U3 0)) (?PV [o,rS B,?j])
   apply Cs (K:=K) (a:=P) (xs:=?W1 ?gZ) Bx8
    ?k8 (λi ys τ G _ hz=>by let#[_,_,_,R,_]:=hz;exact ?OU ?cS hP2) ?_ ?_
   . rintro i x ys τ G hx ⟨as,hal,rfl,R,o,rfl⟩;have hi:i<?o5:=?q7
     have hxv:x=?e (?y2):=by
      ext zD
     subst hxv
     have hmem:?y2∈?gZ:=by
      rw[qa1,?j8];exact qe4 hi
     let#[q0,q1,q2]:=Cu hmem;generalize hpe:?y2=pl at q0 q1 q2;have Bq3:Jk [] [(Sum.inl pl,?S 1)]=cK ?gV:=rfl;have sG:=?bO ?cS;apply#[_,rfl,_,rfl,λe he=>#[_,rfl,Ab,[(Sum.inl pl,?S 1)],rfl,?c1,?_]];rw[Bq3]
     have e3:upd (upd G e ?h7) e (?OX ?gV)=?rI:=by
      funext b
      by_cases hb:b=e
      . subst hb;rw[Ab,Ab]
      . rw[Al hb,Al hb,Al hb]
     rw[e3];have g1:?h G (?rI):=?y he;have he1:(?rI) e=?TJ ?gV:=Ab;generalize ?rI=G1 at g1 he1
     have hl4:?AT<=4:=by
      rcases J7 (l:=xs) (i:=pl.toNat) (d:=[]) with z | z
      . exact ?vT
      . rw[z];exact ?bL
     have v4:chainB xs k ?gV=true:=by
      unfold chainB Jc;rw[List.all_cons,List.all_nil,Bool.and_true,qb7];apply#[?_,?c1];show(?aJ (0<=pl)&&?aJ (pl<?jX)&&?aJ (De ?AT=k))=true;rw[qf2 q0,qf2 q1,qf2 q2];rfl
     have hk3:k<4:=by
      rw[←q2];unfold De;split<;>omega
     apply#[a,e,xs,?gV,rfl,?F (?tM g1) hL1,he1,?c1,h4,#[k.toNat,O9m,by rw[?JF];exact v4],λE2 G2 hE2 g2 Bu5=>?_];apply#[B,E2,?l2,B7 xs ?gV,rfl,?OU ((?tM g1).trans g2) hB,?m Bu5,bl,λD2 G3 Nd g3 fS=>?_];have gG:=?QH ?fC g3;apply#[gG _ _ R.at,?gH,?F5,?CE,?rV,?r7 ((?fC).free Nd) gG ?_,_,rfl];rw[fS,WU,hal,hpe]
     congr 3
     refine CD;intro i' _;exact AE xs pl _
   . rintro ys τ G ⟨as,hal,rfl,R,_⟩;rw[qa4]at hal;exact ?OQ #[D,as,rfl,hal,R.earlier s2]
 apply yD λC as H2 hal R=>?_;intro sq;apply#[_,rfl,_,rfl,B,_,rfl,?UK ?cS hB,?f C,?o5,?qL,_,by rw[qa4];rfl,R.rep hal,cl,bl,λD lC H3 Ai6 R3=>?_];exact kq D lC H3 Ai6 (R3.earlier (?cU ?cS))
noncomputable abbrev Qn:Stmt:=Fd ?k9 2
def Ks:?T1 [?a9,"height","by_rows","by_columns"] Qn:=Bi
def DX[?x](F:E9 K ?xK ?DO Qn f fd)[?w](Vf:Has P w K mg ?d ?n5 ?wW 7 (?OZ Xv))[?lO]:?TL 8 GC:=by
 apply ?PB Ks;let#[H0,p,L,R,nm,n,w,M,l,r,ns,Nx,rfl,x,ok,k]:=h;let ?p8:=x.sm;ext zJ;ext zP
 ext sS
 let ?LC:=Iz hrep;let#[J1,T1,j10,j1t,j1n]:=ok.ex;have A31:=?u3
 replace hq:=?J8
 apply#[_,(Ac (Ao (i:=1) Ks.nd ?lB)
  (Ac (?PH Ks.nd (?T6 Vf (Aa ?V (Aa ?V ?fD))))
  (Ac (?P8 Ks.nd (?T6 Vf (Aa (An C8 hr (Aa ?eJ ?fD)) (Aa ?o ?fD))))
  (Ac (?VH (?T6 C8 (Aa (?P4 ?r) ?a0)))
  (Ac (?VH ?eJ)
  (?WK (?P4 ?r))))))),?_]
 ext I
 apply ?OO (?VM [?q,?yL,none,none] ?aZ)
 . apply#[_,rfl,p,Aj,dx,fs,_,rfl,hp,?J,?f8,l1,ta,us,rfl,?iI,?OQ #[by rw[Ys];rfl,rfl]]
 ext aS;apply ?OO (λσ' H'=>vD λ(tp D L' r1' ZG:Addr) ?uE ?t5 ?vV=>V5 (σ'=[?q,?yL,?b3,none]) ?a7 (J1 n t s) (SqT K H' tp ?LD) (TA H' D as n w s.1) (?UA L' ?sY) (?TS L') (?TS r1') (?TS ZG))
 . apply#[_,rfl,p,Aj,dx,fs,_,rfl,hp,?J,?f8,l1,_,rfl,p,Aj,dx,fs,_,rfl,hp,?J,?s1,l2,_,rfl,p,Aj,dx,fs,_,rfl,hp,?J,?fW,l3,?hL,L,r1,b1,?k,_,n,w,M,l.1,l.2,J1,rfl,A31,lx,uX,UW,T1,j10,j1t,λtp D L' r' b' as t s H1 s1 hJ hT xD lx1 _ fL fr fb=>?_];exact ?OQ #[tp,D,L',r',b',as,t,s,rfl,s1,hJ,hT,xD,lx1,fL,fr,fb]
 apply XZ λtp D L' r1' ZG as t s H1 s1 hJ hT xD lx1 fL fr fb=>?_;intro sq;let#[J2,T2,j20,j2t,j2n]:=j1n t s hJ;have hp1:=?kA;apply ?OO (λσ' H'=>vD λ(ZZ D2 R' r2' vC:Addr) (lC:?pH) (t2:?EA) (s2:?eW)=>V5 (σ'=[?q,?yL,?b3,rS ZZ]) (?U7 H1) (J2 w t2 s2) (SqT K H' ZZ [?d4,?f R']) (TA H' D2 lC w n s2.1) (LX H' Ag R' r2' vC ?k w w (λx a=>s2.1 x (n+a),s2.2) ?sG) (?W0 H1 R') (?W0 H1 r2') (?W0 H1 vC))
 . apply#[_,rfl,tp,_,_,_,rfl,rfl,hT,rfl,_,rfl,p,Aj,dx,fs,_,rfl,hp1,?J,?s1,l2,?kI,n,w,s.1,rfl,xD.rep,O9m,O9m,λF fas H2 hl2 R2=>?_];have hp2:=?gJ _ _ hp1;apply#[_,rfl,_,rfl,p,Aj,dx,fs,_,rfl,hp2,?J,?iG,l4,?f F,R,r2,b2,?k,_,w,n,(λi j=>s.1 j i),r.1,r.2,J2,rfl,R2.rep hl2,ly.keep (?cU ?gJ),UW,uX,T2,j20,j2t,λZZ D2 R' r' b' lC t2 s2 H3 s3 hJ2 hT2 xD2 lx2 _ fR xG fb2=>?_];exact ?OQ #[ZZ,D2,R',r',b',lC,t2,s2,rfl,?qI s3,hJ2,hT2,xD2,lx2,?m9 fR,?m9 xG,?m9 fb2]
 apply XZ λZZ D2 R' r2' vC lC t2 s2 H3 s3 hJ2 hT2 xD2 lx2 fR xG fb2=>?_;intro sq;have hp3:=?QS hp1;have hT3:=s3.seqT hT;apply#[_,rfl,ZZ,_,_,_,rfl,rfl,hT2,rfl,_,rfl,?d4,w,n,s2.1,rfl,xD2.rep,O9m,O9m,λE eas H4 hl4 R4=>?_];have VP:=R4.same;have R7:=VP _ _ hp3;have NU:?L5:=((x.same.trans s1).trans s3).trans VP;have n4:=(?cU ?IV) _ _ x.nu;have Bk3:Rep K (Vd H4 ?E3) (?f E) (dT n w λi j=>s2.1 j i):=R4.hid hl4 λa ha z=>by cases ha;rw[(?t1) _ _ x.nu]at z;cases z
 have hT4:=VP.seqT hT3;have Bs9:=VP.seqT hT2
 have ex:∀a,?BA->H4 a≠none:=λa ha=>by
  ext zY
  . rw[n4];ext lV
  . let ?hX:=lx2.rw;exact ?F6
  . let ?hX:=lx2.bk;exact ?F6
 have z1:LX H4 Ag L' r1' ZG ?k n n ?sY (λa=>?BA):=lx1.more ?IV (λa ha=>by
  ext zY
  . exact ?m (?dN)
  . exact ?B xG
  . exact ?B fb2) ex
 have z2:=lx2.keep VP;have WN:p≠L':=Aq hp fL;have yO:p≠R':=Aq hp1 fR;have LR:L'≠R':=λz=>by let ?L2:=lx1.ob;rw[z,fR]at q;cases q
 apply(?Q5 fs ?f8);have sx5:?bF p H4 (?v6):=?g2;have HN:upd H4 p (?QE E) p=?c (?QE E):=Ab;have kp5:Kp H4 (?v6):=Kp.upd;have e1:?IG=fs.length:=Nu l1;generalize ?v6=H5 at sx5 HN kp5;have hT5:=LP hT4 R7 sx5;have Bs8:=LP Bs9 R7 sx5;apply#[_,rfl,tp,_,_,_,rfl,rfl,hT5,rfl,_,rfl,p,Aj,dx,_,rfl,HN,?J,?fW,O9m,?_];have e2:?KI=?IG:=Nu (x:=?f L) (by ext sO;exact l3);have fX:?bF p H5 (?v9):=?g2;have hp6:upd H5 p (?N Aj dx (?PA E)) p=?UD Aj (?PA E):=Ab;have kp6:Kp H5 (?v9):=Kp.upd;generalize ?v9=H6 at fX hp6 kp6;apply#[_,rfl,ZZ,_,_,_,rfl,rfl,LP Bs8 HN fX,rfl,_,rfl,p,Aj,dx,_,rfl,hp6,?J,?iG,O9m,?_];have e3:(?K ?h0 (?bY R') (?K6)).length=?KI:=Nu (x:=?f R) (by ext NB;exact l4);have sx:?bF p H4 (?U2 H6 (?K ?h0 (?f R') (?PA E))):=?cZ (sx5.trans fX);have kp:Kp H4 (?U2 H6 (?K ?h0 (?f R') (?PA E))):=(kp5.trans kp6).trans ?c8;have g0:∀a,?iO->?r6:=?SC x.same.free;have g1:∀a,?J3->?r6:=?SC ?tV;have npn:nm≠p:=Fo x.nu hp ?mP
 apply k L' R' _ _ _ _ (j2n t2 s2 hJ2) #[#[?f E,dx,_,Ab,?_,?_,?_,?_,?_,?iL,O9m,λM' e=>by
  cases e
  exact Bw6 (p:=p) (dx:=dx) (C:=Aj) Bk3 (by rw[v6 ?IA];exact R7) (λa o ne e=>by
   by_cases z:a=nm
   . rw[OS z]at e;cases e
   . rw[v6 z]at e ⊢;exact sx _ _ ne e)],#[r1',ZG,r2',vC,z1.x R7 WN sx kp,z2.x R7 yO sx kp,g0 _ fr,g0 _ fb,g1 _ xG,g1 _ fb2],sx _ _ npn n4,sx.same NU x.fr.1,#[x.fr.1,g0 _ fL,g1 _ fR,?HL],?AW,?p8]
 . ext aL
 . ext aL
 . ext aL
 . ext aL
 . ext aL
 . iterate 3 ext NO
   exact l6 m hm
noncomputable abbrev Iq:Stmt:=Fd ?k9 1
def Lh:?T1 ?jR Iq:=Bi
def T4[?x](F:E9 K ?w4 ?GY Iq f fd)[?w](Mo:K0 P w K mg ?d Aj ?xK ?cA 8 (?OZ GC))(Pl:Has P w K mg ?d ?KL [?a6] 1 (P1 K)):?TL 9 Qg:=by
 apply ?PB Lh;let#[H0,p,L,R,nm,n,w,M,l,r,U,rfl,x,ok,nx,k]:=h;have sm:=x.sm;let#[_,dx,fs,hp,_,_,_,_,_,l6,_]:=x.ob
 apply#[_,(Ac (?RU ?l Mo)
  (Ac (U1 qb8 (?VD Pl ?fD) (Ai (?RU ?l Mo)))
  (Ai (B6 qb8 rfl (?PJ (Az (PR ?g) T.n_min pW (Aa ?lB ?fD))) (?OT 1 Lh.nd) (?WH (?P0 Ib (?VJ ?c3 ?o)) (?V8 ?V (?VJ ?c3 ?o))))))),?_]
 ext I
 apply ?OO (λσ' H'=>?n7/\∃L R m M l r,?vL/\?DH)
 . exact#[_,rfl,p,dx,fs,rfl,hp,?DW,H0,p,L,R,nm,n,w,M,l,r,[],_,rfl,x,ok,λL' R' M' l' r' H' #[m,hu] y=>?OQ #[rfl,L',R',m,M',l',r',hu,y]]
 apply F7 λH1 fT=>?_;intro sq;let#[L,R,m,M,l,r,hU,x]:=fT;clear ok hp l6;apply ?OO (λσ' H'=>?n7/\∃L R m M l r,?vL/\Lat.Straight n w M/\?DH)
 . apply#[λm σ' G=>?n7/\∃L R M l r,?vL/\?TQ G,#[m,rfl,L,R,M,l,r,hU,x],?_];rintro m σ G C6;apply WV ?_;intro _;let#[rfl,L,R,M,l,r,hU,x]:=C6;ext zJ
   ext sS
   apply#[_,rfl,p,Aj,dx,fs,_,rfl,hp,?J,?f8,l1,tv,n,w,M,rfl,?u3,O9m,O9m,?D0,?D0]
   . ext dI;exact ?OQ #[rfl,L,R,m,M,l,r,hU,hS,?D6]
   . apply ?SK (?c1);apply#[λσ' G'=>?n7/\∃L R m' M l r,m'<m/\U m' M l r/\?TQ G',?_,?_]
     . rintro σ' G' ⟨rfl,L,R,m',M,l,r,hm,hU,y⟩;exact#[m',hm,rfl,L,R,M,l,r,hU,y]
     . exact#[_,rfl,p,dx,fs,rfl,?kA,?DW,H0,p,L,R,nm,n,w,M,l,r,[],_,rfl,?D6,nx m M l r hU hS,λL' R' M' l' r' H' #[m',hm,hu] y=>#[rfl,L',R',m',M',l',r',hm,hu,y]]
 ext zZ;let#[L,R,m,M,l,r,hU,hS,x]:=fT;ext zJ
 ext sS
 let ?E2:=Iz hrep
 replace hq:=?J8
 have emin:?L1=min n w:=?u7
 apply#[_,rfl,p,Aj,dx,fs,_,rfl,hp,?J,?f8,l1,ta,us,rfl,?iI,_,rfl,p,Aj,dx,fs,_,rfl,hp,?J,?s1,l2,_,_,rfl,_,rfl,?u7,?u7,?_];apply Ch (lo:=0) (n:=?L1) (λi σ' G=>Ea λo1=>σ'=?KO/\WX K Ag Aj H0 G p L R nm n w ?oG l r (QE i M)) ?FY ?_ ?_
 . clear hp hrep hq Pi l1 l2 l3 l4 l5 l6 l7;rintro i σ G hi ⟨o1,rfl,y⟩;rw[emin]at hi;rw[qi6];let ?ID:=y.ob
   ext sS
   let ?E2:=Iz (?u3);have e:=qa0 (l:=us) (i:=i) O9m;let#[_,b,eb,hb]:=Pi i _ e;rw[eb]at e;apply#[_,rfl,p,Aj,dx,fs,_,rfl,hp,?J,?f8,l1,_,rfl,ta,_,_,_,rfl,rfl,hq,Bo e,_,rfl,b,_,_,_,rfl,rfl,hb,?s7,rfl,_,rfl,?_];ext bR
   . have h0:¬M i i=0:=?Z
     apply#[_,rfl,p,Aj,dx,fs,_,rfl,hp,?J,?eX,l5,?P7 y.nu,_,rfl,p,Aj,dx,fs,_,rfl,hp,?J,?f8,l1,_,rfl,ta,_,_,_,rfl,rfl,hq,Bo e,_,rfl,b,_,_,_,rfl,rfl,hb,?s7,nm,_,_,rfl,rfl,y.nu,?_,?_]
     . have:=wM i M;exact ?gH
     . have z:=y.num (ns':=QE ?cT M);rw[Q2,?nL,qb4]at z;exact#[_,rfl,by rw[Q2,?nL];exact z]
   . have h0:M i i=0:=?Z
     exact#[_,rfl,by rw[Q2,?yM];exact y]
 . ext aR;ext A1;rw[emin]at y;exact k L R m M l r _ hU hS y
noncomputable abbrev Qq:Stmt:=Fd (top 69) 6
def Dk:?v [?a9,"k",?bU,?fX,"rest",?sZ,?qM,?nJ,?oF,?b7] ?xJ (Ar Qq):=Bi
def dZ[?x](F:E9 K ?d1 ?MB Qq f fd)[?w][?zH](Pn:Has P w K mg ?d ?qT ?iC 8 (Sw K))(w9:Has P w K mg ?d ?pB ?vO 3 (GA K))[?NP](KC:Has P w K mg ?d "weigh" [?nJ,?bU] 1 (FZ K))[?z8]:Bv P w K mg ?d Eo 9 f fd ?xJ ?AN:=by
 apply ?PB Dk;let#[p,b,k,B,xs,ls,ps,c,rfl,bk,sB,nb,Yu,hps,hb,hc,kq]:=h;ext lR;let#[dx,P,Lv,Lf,lu,wu,hp,hP,UZ,hW,hLf,dd]:=bk.ob;let ?J0:=hW.at (k:=k) (by have:=bk.n4;ext dK)
 rw[qb0,hps]at e2
 apply#[_,(Ac (?WF D9 (?OP ?o (?VO 4)))
  (Ac (?PF K7 (?V9 ?V))
  (Ac (?WF Pn (?X8 ?V))
  (Ac (?P8 ?dR ?dZ)
  (Ac (?PG ?dR (?T6 w9 (?X8 ?V)))
  (Ac (B6 qb8 rfl (?P6 Cd ?c3) (?UB (?OT 5 ?dR) (Bl (?OT 6 ?dR) (Bl (?OT 7 ?dR) (Bl (?OT 8 ?dR) Dl)))) (Ac (Ao (i:=9) ?dR (?T6 KC (?X8 ?aW)))
  (Ac (Bx (?P0 Ib ?a1) (Ac (Ao (i:=4) ?dR (?T6 Vg (?OP ?D (?X7 (Bh J4 ?bH ?a1) ?c4))))
  (Ai (Ao (i:=9) ?dR (Bh Eg ?bH ?a1)))) Bj)
  (?V8 ?r ?bH))))
  (?VG (Es ?lH)))))))),?_]
 ext I
 cases e2;ext O8;have hs:=bk.sh;have Da:=bk.len;ext MZ;have hpl:=?A6 Da;ext zO;have el:=rE.len;have hat:BP lu ?T=?QD E:=Bo e1;have bC:∀q∈c,q.2.natAbs<2 ^ pZ:=λq hq=>by rw[←hc.ch.ok.val hq];exact hc.b q.1
 apply ?OO (λσ' H'=>?VL none/\?aZ)
 . exact#[_,rfl,?T,4,rfl,O9m,O9m,?jO]
 ext aS;ext MR
 . apply#[_,rfl,p,Av,dx,_,_,rfl,?KS,?bP,?kM,rfl,_,rfl,_,rfl,P,b,xs,?T,c,rfl,?F sB hP,hb,?RJ hc.ch.ok.len,?tE];rw[hc.ch.chain];ext aY;exact ?mC
 ext lQ;have sB1:=?i2 s1;ext MR
 . exact#[_,rfl,p,Av,dx,_,_,rfl,?RB sB1,?bP,?kM,rfl,_,rfl,P,b,xs,k,c,rfl,?F sB1 hP,hs,Da,?hK,Yu,?sC,hc.z,λH2 s2=>?JK]
 apply F7 ?mI;intro sq;apply ?OO (λσ' H'=>Ea λ(N:Addr)=>By (?VL ?iQ) (?W0 H2 N) ?nC (H' N=?pM))
 . exact#[?bL,λN hN=>?OQ #[N,rfl,hN,?y hN,Ab]]
 apply Mf λN H3 nN s3 hN3=>?_;intro sq;have UX:=?dU;have sB3:=?i2 UX;apply ?OO (λσ' H'=>Ea λ ?yT=>By (σ'=[?q,?Q,?z,?iQ,rS Rr,none,none,none,none,none]) (?W0 H3 Rr) (?U7 H3) (?VX Rr ?gD))
 . apply#[_,rfl,p,Av,dx,_,_,rfl,?RB sB3,?bP,?GV,rfl,_,rfl,Lf,b,B,xs,?T,wu,?uL,c,rfl,hLf,dd,sB3,nb,UX _ _ hb,?sC,oJ _ _,Da,λq hq=>#[?u5,?v8],λRr H4 nR s4 hR=>?OQ #[Rr,rfl,nR,s4,hR]];have lb:=oK ti Da Yu (hc.ch.key q hq) t.1;rw[(?u5).ok.val ht]at lb;exact ?RT (bC q hq) lb
 apply Mf λR0 H4 nR0 s4 hR4=>?_;intro sq;have NU:=UX.trans s4;have nHN:?TS N:=?jV nN;have nHR:?TS R0:=UX.free nR0;have nRN:R0≠N:=λz=>by rw[z,hN3]at nR0;cases nR0
 have hcl:ChL xs ?l9 ?gD:=U8 (λq hq=>?u5) (ChL.nil ..);apply ?OO (λσ' H'=>lG λ ?yT ?xX=>Hz (σ'=?EW) ?A3 (?TS Rr) ?a7 (H' N=?l1) (?VX Rr (restB c ?eA ?gD)))
 . apply#[_,rfl,p,Av,dx,_,_,rfl,?RB (?i2 NU),?bP,?xW,rfl,_,rfl,Lv,lu,_,_,rfl,rfl,?OU (?i2 NU) UZ,hat,E,rfl,#[_,?OU (?i2 NU) hE],?_]
   let Bx7:?aQ:=λi σ G=>lG λ ?yT ?xX=>Hz (σ=?EW) ?A3 (?TS Rr) ?f7 (G N=?TC (((?f5 i).map (Fk c)).map ?S)) (G Rr=?TJ (?W2 c))
   apply ?eU (K:=K) (a:=E) (xs:=eu) Bx7
    #[R0,_,_,_,_,_,rfl,nRN,nHR,NU,s4 _ _ hN3,hR4] (λi σ G _ hz=>by let ?IU:=hz;exact ?OU ?lF hE) ?_ ?_
   . rintro i v σ G hv C6
     ext U
     revert σ;ext NR;ext iX;let ?G0:=?MM;let#[t,c1,c2,c3,rfl,et0,d10,d20,d30,_]:=pv;have et:=?lF _ _ et0;have d2:=?lF _ _ d20;have d3:=?lF _ _ d30;have hqm:=?p4;have pb:=?JU;have nc2:c2≠b:=Aq d20 nb;have hcr:ChL xs ?l9 (?W2 c):=Z9 (?S4 (ql6 hx)) hcl;ext zA;apply ?VN (λσ' H'=>?PO Rr (?e (?mW))/\?kN);ext a8
     . apply#[_,rfl,_,rfl,c2,b,?uA,c,rfl,d2,?Q3 g hb,nc2,?RJ pb.g.ok.len,?C1,?HT]
       . rw[←pb.g.ok.val hx];exact ?RT (pb.gb _) (hc.b _)
       . rw[Zd pb.g ?sC];exact ?Q7 #[rfl,g1]
     ext sP;apply ?VN (?WX ?AE (restB c (?f5 ?cT) ?gD));ext a8
     . rw[jJ hq]at Et;unfold Fk Z8 at Et;ext bS;ext bR
       . have h0:q.1≠0:=?Z
         have nn:=pb.nn;have efd:(?mW).fdiv q.1=?yA:=qg3 _ nn;rw[?nL,?nL]at Et;apply Am (?WX (?mW) (Em (?W2 c) (Hv (?yA) ?w6))) ?_ λBo2=>?_;ext a8
         . apply#[_,rfl,_,rfl,_,rfl,_,_,rfl,rfl,V4.of O9m pb.nb,_,rfl,?yA,c3,?w6,by rw[efd];rfl,g1 _ _ d3,?RJ pb.f.ok.len,hc.div hqm pb h0,λT G2 nT g2 hT=>?_];have Bt0:=?GA;apply#[Rr,T,_,_,rfl,?Q3 g2 Bt0,hT,?RJ hcr.ok.len,qa5 (pb.f.ok.times _).len ?P,λR2 G3 nR2 g3 hR2=>?_];have HX:=(?fC)
           have oG:R2≠N:=λz=>by rw[z,HX _ _ hNG]at nR2;cases nR2
           exact Bo2 _ _ #[R2,rfl,oG,?rB (HX.free nR2),?FP g3,hR2]
         apply LJ λR2 G3 oG Ai8 g3 hR2=>?_;intro sq;exact#[_,rfl,_,rfl,_,_,rfl,rfl,O9m,?Q7 #[R2,rfl,oG,Ai8,g3,hR2]]
       . have h0:q.1=0:=?Z
         rw[?yM,?yM]at Et;exact ?Q7 #[Rr,rfl,nRr,tO,?jZ _,?GA]
     apply LJ λR2 G2 oG Ai8 g2 hR2=>?_;intro sq;have A51:=g2 _ _ (g1 _ _ hNG);have etk:?f5 ?cT=?f5 i++[q]:=by rw[qe7,hq];rfl
     apply#[_,rfl,?P7 A51,_,rfl,N,_,_,rfl,rfl,A51,?cQ ?_,R2,_,_,_,_,_,rfl,oG,Ai8,(?QH ?iF g2).turn nHN,?_,by rw[Al oG];exact hR2]
     . rw[qa4,qa4,qd5];omega
     . rw[Ab,etk,qb4,qb4];rfl
   . ext aR;ext NR;rw[el,qd2]at hNG hRG;exact ?OQ #[Rr,_,_,_,_,_,rfl,nRr,tO,g,hNG,hRG]
 apply Ar9 λRr o5 o6 o7 o8 o9 H5 nRr tO s5 hN5 hR5=>?_;intro sq;apply#[_,rfl,_,rfl,(by show 2<=sizeLine;decide),?wA];have s6:?h H5 (upd H5 T (?C [?mL,?f Rr])):=?yC;apply kq T N Rr _ _ (s5.free hT) nHN tO (λz=>by rw[z,hN5]at hT;cases hT) (λz=>by rw[z,hR5]at hT;cases hT) nRr.symm (s5.trans s6) Ab (?UV hN5) (?UV hR5) #[Z9 (?S4 hx) hcl,λq=>QO hs ti Da Yu hps ?sC hc.z (?S4 hx) q]
noncomputable abbrev Tt:Stmt:=top 62
def Mh:?v [?a6,?bB,"work","left_back",?h0] ?gK (Ar Tt):=Bi
def gW[?x](F:E9 K ?qS ?qS Tt f fd)[?w](eS:iU P w K mg ?d Aj ?rH 3 (?OZ gD))(Iw:K0 P w K mg ?d Aj ?w4 ?cA 9 (?OZ Qg))(G7:K0 P w K mg ?d Aj ?y3 ?cA 5 (?OZ bZ))[?lO](W8:Has P w K mg ?d ?pK ?n1 3 (Xt K)):Bv P w K mg ?d Eo 10 f fd ?gK (Uw K):=by
 apply ?PB Mh;let#[v,n,w,A,Fin,rfl,hv,hn,hw,hP,k]:=h;let ?LC:=?j4;let#[U,Y,a1,a2,a3,a4,a5]:=hP.ex
 apply#[_,(Ac (?PF W8 ?c0)
  (Ac (?PH Mh.nd (Nz eS hr ?g T.m_Work ?c0))
  (Ac (?RU ?p Iw)
  (Ac (?RU ?p G7)
  (Ac (Ao (i:=3) Mh.nd (?T6 C8 (?OP ?nE ?fK)))
  (Ac (?PG Mh.nd (?T6 C8 (Aa ?nE ?a0)))
  (?VG (Es (Aa (?P6 Bd ?p) (Aa ?nE (Aa ?r (?OP ?D ?nE)))))))))))),?_]
 ext I
 apply qy1 (t:=?w3) (λσ' H'=>?TW none/\?f0) ?i ?_
 . apply#[_,rfl,_,rfl,?hL,n,w,A,rfl,hv,hn,O9m,?tE];ext dI;exact ?mC
 ext lQ;apply ?OO (λσ' H'=>Tb λp L R nm=>?TW ?q/\WX K Ag Aj H1 H' p L R nm n w (?c A) ?e6 ?e6 [])
 . apply#[_,rfl,_,rfl,?_];intro p dx np YO Ad5;have sN:?h H1 (?U2 (?Q4 dx (.own p)) []):=?n4 np;exact#[H1,p,dx,?hL,n,w,A,rfl,sN,np,Ab,?F s1 hv,O9m,hw,λL R nm H' y=>#[rfl,?OQ #[p,L,R,nm,rfl,y]]]
 apply As5 λp L R nm H2 x=>?_;intro sq;apply ?OO (λσ' H'=>lG λL R k f l r=>C9 (?TW ?q) (k<=n) (k<=w) (Y k 0 f l r) (WX K Ag Aj H1 H' p L R nm n w ?k l r (Ii k f)))
 . ext lM;apply#[_,rfl,p,kL,kH,rfl,hpa,?KJ,H1,p,L,R,nm,n,w,A,_,_,U,rfl,x,a1,a2,λL' R' m M l r H' hU hS y=>?_];let#[k,f,e,k1,k2,hY]:=a3 m M l r hU hS;rw[e]at y;exact ?OQ #[L',R',k,f,l,r,rfl,k1,k2,hY,y.drop]
 apply As0 λL R kk f l r H3 k1 k2 hY x=>?_;intro sq;apply ?OO (λσ' H'=>Nl λf l r=>By (?TW ?q) (Fin kk f l r) (?AM kk kk f) (WX K Ag Aj H1 H' p L R nm n w ?k l r (Ii kk f)))
 . ext lM;apply#[_,rfl,p,kL,kH,rfl,hpa,?KJ,H1,p,L,R,nm,n,w,kk,l,r,f,Y kk,rfl,x,k1,k2,hY,a4 kk,λd f' l' r' H' hY' hC y=>?_];exact ?OQ #[f',l',r',rfl,a5 _ _ _ _ _ hY',hC,y]
 apply LI λf l r H4 hF hC x=>?_;intro sq;ext lM;ext zP;let#[dl,fl,hL,e1,e2,_]:=lx.ob;let#[dr,fr,hR,e3,e4,_]:=ly.ob;let#[zH,xa1,_]:=lx.rw;let#[bs1,xb1,_]:=lx.bk;let#[lC,xa2,_]:=ly.rw;let#[bs2,VE,_]:=ly.bk;have GK:=x.same;apply#[_,rfl,p,Aj,kL,kH,_,rfl,hpa,?J,?fW,l3a,L,Ag,dl,fl,_,rfl,hL,?d6,?o2,e2,_,rfl,ta,us,rfl,?m ((?cU GK).seq hq),?f b1,n,n,l.2,(by rw[Ys]<;>rfl),xb1.rep,O9m,O9m,λD1 c1 H5 hc1 R1=>?_];have YH:=R1.same;apply#[_,rfl,p,Aj,kL,kH,_,rfl,(YH _ _ hpa),?J,?iG,l4a,R,Ag,dr,fr,_,rfl,(YH _ _ hR),?d6,?s9,e3,_,rfl,?f r2,w,w,r.1,rfl,(xa2.same YH).rep,O9m,O9m,λD2 c2 H6 hc2 R2=>?_];have s46:=YH.trans ?gJ;apply#[_,rfl,p,Aj,kL,kH,_,rfl,(s46 _ _ hpa),?J,?eX,zA,_,rfl,p,Aj,kL,kH,_,rfl,(s46 _ _ hpa),?J,?fW,l3a,L,Ag,dl,fl,_,rfl,(s46 _ _ hL),?d6,?s9,e1,_,rfl,_,rfl,_,rfl,p,Aj,kL,kH,_,rfl,(s46 _ _ hpa),?J,?iG,l4a,R,Ag,dr,fr,_,rfl,(s46 _ _ hR),?d6,?o2,e4,?bQ,?JO];have s67:?h H6 (upd H6 tp (?C [?f nm,?f r1,?eG,?d4,?f b2])):=?y htp;have s47:=s46.trans s67;have qX:=(?cU GK).trans s47;have g1:∀a,?J3->?iO:=?SC ?m1;apply k tp nm r1 D1 D2 b2 kk f l r _ hF hC k1 k2 #[qX,?bV,?HB,(xa1.same s47).rep,(R1.later ?AF).rep hc1,(R2.later s67).rep hc2,(?x6 s47).rep,?cC];rcases ha with rfl | rfl | rfl | rfl | rfl
 . exact#[g1 _ ?HL,_,?HB,?t6]
 . exact#[g1 _ f1,_,s47 _ _ xa1.2.1,by rw[qa4,xa1.1];omega]
 . exact#[g1 _ (GK.free ?qW),_,?AF _ _ R1.at,by rw[qa4,hc1];omega]
 . exact#[g1 _ (GK.free (YH.free ?oV)),_,s67 _ _ R2.at,by rw[qa4,hc2];omega]
 . exact#[g1 _ f4,_,s47 _ _ VE.2.1,by rw[qa4,VE.1];omega]
noncomputable abbrev Tv:Stmt:=top 66
def Eb:?v [?X,?d1,?z0,?yF,"k",?bB,?hS,?mS] [?X] (Ar Tv):=Bi
def gX[?x](F:E9 K ?oA ?oA Tv f fd)[?w][?ON](Xa:Has P w K mg ?d ?qS ?gK 10 (Uw K))[?sL][?NL](W6:Has P w K mg ?d ?pY ?xY 4 (Xr K))[?lO](Nb:Has P w K mg ?d ?m0 ?gB 8 (Pz K)):Bv P w K mg ?d Eo 11 f fd [?X] (Xu K):=by
 apply ?PB Eb;let#[a,xs,rfl,hL,hs,Da,kq]:=h;ext lR
 have h4:∀x∈xs,x.length<=4:=λx hx=>by
  let#[i,hi]:=qf1 hx;rcases (hs i x hi).cnt with e | e | e | e<;>omega
 have pl:∀k,?iD<=40:=λk=>?u4
 apply#[_,(Ac (?V7 1 ?dW)
  (Ac (Ao (i:=2) ?dW (?T6 S5 (?VI (?OY (?WZ (An Bs hr (Aa ?l ?dM)))))))
  (Ac (?P8 ?dW (?T6 S5 (?VI ?hV)))
  (Ac (B6 qb8 rfl (?PJ (?VO 4)) (?OT 4 ?dW) (Ac (?WC ?dW (?X6 (?VI (?T6 Bs (?OP ?l (?WV ?D))))))
  (Ac (?WL ?dW (?T6 Xa (Aa (An L5 hr (Aa ?r (Aa (An Nb hr (?OP ?l (?WV ?D))) ?cF))) ?cF)))
  (Ac (?OW ?o (?T6 W6 (Aa ?l (Aa ?D (?WE ?Y ?eS)))))
  (Ac (Ao (i:=7) ?dW (?OY (?VI (Ba ?aU ?Y Ak ?A))))
  (Ac (?W7 2 (?T6 C8 (Aa (?P4 ?Y) ?cF)))
  (Ai (?W7 3 (?P4 ?Y)))))))))
  (?VG ?o))))),?_]
 ext I
 apply ?OO (λσ' H'=>Ea λ ?e3=>By (?TZ none none) ?a7 ?hJ ?D1)
 . ext NM
 apply Mf λD H1 s1 nD hD=>?_;intro sq;apply ?OO (λσ' H'=>Ea λ(la:Addr)=>By (?TZ ?b8 none) (?U7 H1) (la≠D) (?UT ?z5))
 . apply#[_,rfl,a,0,xs,rfl,?f1,O9m,?L3];ext zQ;exact#[?gS,rfl,?B5,λla at_ H3 hal R3=>?OQ #[la,rfl,?bO ?lL,?LB,mP (R3.rep hal)]]
 apply Mf λla H2 s2 nlD hla=>?_;intro sq;apply ?OO (λσ' H'=>Ea λ(ga:Addr)=>By (?TZ ?b8 ?b5) ?nC (ga≠D) (?UT ?pV))
 . let#[_,lu,ez,hlq,Ah9,_]:=Iz hla;cases ez;ext OJ;exact#[?gS,rfl,?B5,λga at_ H3 hal R3=>?OQ #[ga,rfl,?lL,?LB,mP (R3.rep hal)]]
 apply Mf λga H3 s3 ngD hga=>?_;intro sq;have vQ:=?QH ?iS s3;apply ?OO (λσ' H'=>ZR K H a D xs 4 σ' H')
 . apply ?C2;apply Ch (lo:=0) (n:=4) (λk σ G'=>ZR K H a D xs k σ G') ?_ ?_ ?_
   . apply#[[],[],la,ga,?gS,?gT,?gT,_,_,_,_,rfl,vQ,(?dU) _ _ hD,rfl,Of.first xs,?IS,nlD,ngD,?F s3 hla,hga,?_,?nS,one_bits _ _,one_bits _ _]
     have e0:Cv xs (?D8-1)=0:=by
      show(C3 xs (0-1)).length=0;rw[VX];rfl
     rw[e0];exact Lat.Lev.first _ _
   . rintro k σ G' hk C6
     ext U
     let#[us,ls,la,ga,z,L,G,o4,o5,o6,o7,rfl,g,Eu,hll,v4,hB,nla,nga,rla,rga,lev,hzm,bL,bG]:=C6;rw[show ?b0+?T=?T by omega];have Cs8:=pl ?T;have Cr1:=pl ?l9
     have hzw:z+?d0<=40:=by
      have:=rF (xs:=xs) (show ?T≠?gM by omega);omega
     have usl:?PW k:=hB.1.trans hll;have ekk:?gM-1=?T:=O9m
     have kD:=?vI;apply ?OO (λσ' H'=>?U1 o6/\?U7 G')
     . apply#[_,rfl,_,rfl,_,_,rfl,rfl,a,?gM,xs,rfl,kD,O9m,?L3];ext zQ;exact ?OQ #[rfl,s2]
     ext sP;have tw:=SR hs ?T;have told:=lev.told tw;let#[pv,st]:=lev.st;have plan:=pX st told (λq c _ _=>vH h4 _ q c) hzw;apply ?OO (λσ' H'=>QC λ(tp nm r1 D1 D2 b2:Addr) (k0:Nat) (f:?h2) (l r:?eW)=>C9 (?U1 ?b3) ?jG (?UG f) (LF D nm r1 D1 D2 b2) (?U0 qD ?T))
     . apply#[_,rfl,_,rfl,_,rfl,_,_,rfl,rfl,a,xs,?gM,rfl,?F (?iF) hL,O9m,h4,O9m,O9m,λT as G2 hal R2=>?_];rw[ekk]at hal;have rT:Rep K G2 (?f T) (dT (?x7) (?d0) (?w0)):=R2.rep hal;apply#[_,rfl,?pV,?f T,z,?x7,?d0,G,?w0,rfl,?F (?rD ?gJ) rga,rT,O9m,O9m,O9m,λi j c hi hj hc=>Lu (bG i j hi hj) (jA h4 _ j c) (by unfold bookF;decide),λT2 lC G3 Ai6 R3=>?_];apply#[_,rfl,?f T2,z,?d0,Lat.gT (?x7) G (?w0),_,rfl,R3.rep Ai6,O9m,O9m,plan,λtp nm r1 D1 D2 b2 k0 f l r G4 hF hC k1 k2 x=>?_];exact ?OQ #[tp,nm,r1,D1,D2,b2,k0,f,l,r,rfl,(?qI ?lL).trans ?hT,x.r,x.ne (((?rD ?gJ).trans ?lL) _ _ Eu),#[lev,hF,hC,k1,k2,bL,bG,hzm]]
     apply ZV λtp nm r1 D1 D2 b2 k0 f l r G2 g2 x xn bl=>?_;intro sq;have HX:=?fC;apply ?OO (λσ' H'=>Ea λ(us':?eB)=>C9 (?U1 ?b3) ?a7 (?bT=?TC us') (Go D H' us' (ls++[?U0 Ft ?T])) (?UG f))
     . apply#[_,rfl,?P7 (?GG),_,rfl,_,rfl,_,rfl,_,rfl,_,rfl,a,tp,nm,r1,D1,D2,b2,?z5,?pV,xs,?T,z,k0,_,L,G,f,l,r,rfl,?F (?vK) hL,Da,rfl,?F HX rla,?F HX rga,x,O9m,bl.kz,bl.kw,λi hi=>by have:=bl.fin.dg.pos i hi;omega,bl.fin.bl.1,bl.fin.bl.2,bL,bG,λE eu G3 nE g3 hE rE=>?_];have zD:=HX.trans g3;apply#[D,_,_,rfl,rfl,?vD,?dE,?_];have nED:E≠D:=λq=>by rw[q,?GG]at nE;cases nE
       apply ?OQ #[us++[?f E],rfl,?UY zD nD,Ab,?_,?_]
       . exact(hB.same zD).snoc (?vD) nED hE rE
       . exact(?hT g3).put xn (?vD) hB.refs
     apply LJ λus' G3 g3 Aj1 hB3 x3=>?_;intro sq;apply ?OO (λσ' H'=>σ'=[?j,?H,?b8,?b5,?Q,?kB,?b3,?T7 ?n8]/\G3=H')
     . apply#[_,rfl,tp,_,_,_,rfl,rfl,?wT,rfl,nm,_,rfl,?m x3.num,?_];rw[Bu];ext eD
     ext eE;have hkw:=bl.kw;apply ?OO (λσ' H'=>Ea λ(la2:Addr)=>By (σ'=[?j,?H,rS la2,?b5,?Q,?kB,?b3,?T7 ?n8]) (?EC) (la2≠D) (?US la2 (dT (?d0-k0) (?d0) ?HG)))
     . apply#[_,rfl,tp,_,_,_,rfl,rfl,?wT,rfl,_,rfl,?d4,_,_,_,rfl,x3.right,O9m,O9m,λF as G4 hal R4=>?_];apply#[_,rfl,_,rfl,F,_,rfl,.of R4.at,?pL];have ec:Kb ?h6 (?c ?n8) ?k=(as.drop k0).map ?bY:=by rw[Rg,qr3]
       rw[ec];have R5:=R4.drop (k:=k0) hC rfl;apply ?OQ #[C,rfl,R5.same,(Aq (?y6 _ _ Aj1) hC).symm,?_];exact R5.rep (by rw[qj3,hal])
     apply Mf λla2 G4 g4 Bl4 Bk2=>?_;intro sq;have x4:=x3.same g4;let#[_,bu,ez,hbq,Bs0,A46]:=Iz x4.rback;cases ez;apply#[_,rfl,tp,_,_,_,rfl,rfl,?uK,rfl,_,rfl,_,rfl,b2,bu,rfl,hbq,?pL];rw[Rg];have g5:=?y (o:=?n (bu.drop k0)) hC;apply#[us',ls++[?U0 Ft ?T],la2,C,?d0-k0,(?HG),(λi=>r.2 (k0+i)),_,_,_,_,rfl,(?uI g4).trans g5,(g4.trans g5) _ _ Aj1,by rw[qc6,hll];rfl,v4.snoc bl,hB3.same (g4.trans g5),Bl4,(Aq (g4 _ _ Aj1) hC).symm,?_,?_,?_,?_,?_,?_]
     . ext lP;exact ?F g5 Bk2
     . ext lP;apply xM (us:=bu) (λi u e=>?_) Bs0 (?bV);let#[h1,b,eb,hb]:=A46 i u e;exact#[h1,b,eb,g5.seq hb]
     . let#[pl',lo]:=bl.fin.lo;have:=lev.next tw bl.fin.dg bl.fin.il bl.fin.ir lo;rw[?BX,ekk];exact this
     . ext lP;omega
     . ext lP;exact λi c hi hc=>bl.fin.br.1 _ _ O9m hc
     . ext lP;exact λi c hi hc=>bl.fin.br.2 _ _ O9m hc
   . rintro σ G' h;exact ?OQ h
 rintro _ H4 ⟨us,ls,la',ga',z,L,G,o4,o5,o6,o7,rfl,g,Eu,hll,v4,hB,_⟩;exact#[_,rfl,kq D us ls H4 nD g Eu hll #[_,_,_,v4] hB.out]
noncomputable abbrev M4:Stmt:=Fd (top 69) 0
def Ql:?v [?a9,?cL,?vQ] ?t9 (Ar M4):=Bi
def g6[?x](F:E9 K ?cK ?HH M4 f fd)[?w](Xb:Has P w K mg ?d ?oA [?X] 11 (Xu K))(W7:Has P w K mg ?d ?m7 ?xH 3 (Xs K))(W9:Has P w K mg ?d ?r5 ?hR 6 (Uq K))(Jl:Has P w K mg ?d ?KM ["parts"] 1 (La K)):Bv P w K mg ?d Eo 12 f fd ?t9 ?G1:=by
 apply ?PB Ql;let#[p,dx,a,us,H0,xs,rfl,hp,ha,r,s0,n0a,n0p,hs,Da,k]:=h;have hL:LT K H ?jH xs:=#[a,us,rfl,.of ha,?b2 s0 r]
 have nap:a≠p:=λz=>by rw[z,hp]at ha;cases ha
 apply#[_,(Ac (?PF W9 ?a0)
  (Ac (?VH (?TT ?a0))
  (Ac (?PH Ql.nd (?T6 Xb ?fD))
  (Ac (?VH (B8 (N':=["parts"]) (cap:=?k5) ?g ?aB (?P6 Cd ?p) (?T5 Ae3) ?aI (?P3 Jl ?aX)))
  (?WK (?T6 W7 (?X8 ?V))))))),?_]
 ext I
 apply ?OO (λσ' H'=>?V0 none/\?f0)
 . apply#[_,rfl,?fT,xs,rfl,hL,hs,Da,?tE];exact Hg ?P (?mC)
 ext lQ;apply ?OO (λσ' H'=>Ea λ ?HS=>Hz (?V0 none) (?BS) (H' P=?gY) (P≠p) (P≠a) (H' p=?UD Av [?w7]))
 . apply#[_,rfl,a,us,rfl,?UK s1 ha,λP hP=>?_];have s2:=?cU (?y (o:=?n us) hP);have nPp:P≠p:=(Aq (?kA) hP).symm;apply#[_,rfl,p,Av,dx,[],rfl,?Q6 hp,?bP,?kM,?c1,?_];exact ?OQ #[P,rfl,?V4 s2,by rw[Al nPp];exact Ab,nPp,(Aq (s1 _ _ ha) hP).symm,?xG]
 apply As9 λP H2 sx2 hP2 nPp nPa hp2=>?_;intro sq;have s02:=?AV s0 n0p;have ha2:=sx2 _ _ nap ha;apply ?OO (λσ' H'=>Nl λ ?e3 ?vG ?BP=>Nm (?V0 ?H) ?nC (?bT=?tY) (D≠p) (Py H' bu ls) (ls.length=4) (∃z L G,Of xs 4 ls z L G))
 . apply#[_,rfl,p,Av,dx,_,_,rfl,hp2,?bP,?kM,rfl,P,xs,rfl,(?RV hP2 s02),hs,Da,λD bu ls H3 nD s3 hD hl4 v4 hB=>?_];exact ?OQ #[D,bu,ls,rfl,s3,hD,(Aq hp2 nD).symm,hB,hl4,v4]
 apply As6 λD bu ls H3 s3 hD nDp hB hl4 A29=>?_;intro sq;have v4:=let #[_,_,_,t]:=A29;Of.lev t
 have hp3:=?QS hp2;have ha3:=?QS ha2;have h0:=hB.1;apply ?OO (λσ' H'=>Ko λ(Lv:Addr) ?i4=>fQ (?V0 ?H) (?EG) (H' Lv=?fO) (Lv≠p) (Lv≠a) (Py H' ws (ls.map Hr)) ((∀v∈ws,v≠?fT)) (H' p=?UD Av ?wM))
 . apply#[_,rfl,D,rfl,?M1,λLv UZ=>?_];have nLp:Lv≠p:=(Aq hp3 UZ).symm;have nLa:Lv≠a:=(Aq ha3 UZ).symm
   let Bx6:?aK:=λi ws τ G=>C9 (?h H3 G) (G Lv=?fO) (Go Lv G ws ((ls.take i).map Hr)) ((∀v∈ws,v≠?fT)) ?jK
   apply Cs (K:=K) (a:=D) (xs:=bu) Bx6
    #[?y UZ,Ab,?IS,(λv hv=>by cases hv),?k,rfl] (λi ws τ G _ hz=>?TK ?jD hD) ?_ ?_
   . rintro i v ws τ G hv C6;revert τ;apply sV ?_;intro g kD hW hna o Er;ext iX;ext NX
     let ?KP:=?CH;have hpl:=(v4 i ps hps).len Da
     have wl:ws.length<=i:=by
      have:=hW.1;rw[qa4,qd5]at this;omega
     apply#[_,rfl,pa,pu,ps,rfl,?BE,?pT g,O9m,λE eu G2 nE g2 hE rE=>?_];have nEL:E≠Lv:=(Aq kD nE).symm;apply#[?DC,?dE,?UY g2 UZ,Ab,?_,λv hv=>?_,_,rfl]
     . rw[qe7,hps,qb4];exact(hW.same g2).snoc (?DC) nEL hE rE
     . rcases ql0.mp hv with hv | hv
       . exact hna v hv
       . rw[qi9]at hv;subst hv
         exact λz=>by
          cases z;rw[g _ _ ha3]at nE;cases nE
   . rintro ws τ G ⟨g,kD,hW,hna,_⟩;rw[h0,qd2]at hW;apply(?SN ?vN ?xW);apply ?OQ #[Lv,ws,rfl,?V4 g,by rw[Al nLp];exact kD,nLp,nLa,?DZ,hna,?xG];let#[E,eu,rfl,_,hE,rE]:=?BT;apply#[E,eu,rfl,?_,B4.kd (λc o e ho=>?_) rE]
     . ext iY
       . exact hE
       . rw[z,?vN]at hE;cases hE
     . ext iY
       . exact e
       . rw[z,?vN]at e;cases e;ext zN
 apply As8 λLv ws H4 yG UZ nLp nLa hW hna R7=>?_;intro sq;have NU:=yG.same (?B0 s3) n0p;have hP4:=yG _ _ nPp (?QS hP2);have HR:=yG _ _ nDp hD;have ha4:=yG _ _ nap ha3;have kd4:∀c o,H3 c=?cR->(∀C d f,o≠?N C d f)->H4 c=?cR:=λc o e h=>yG _ _ (λz=>by rw[z,hp3]at e;cases e;exact h _ _ _ rfl) e
 have hB4:Py H4 bu ls:=#[h0,λi v ps e1 e2=>by
  let ?GB:=hB.2 i v ps e1 e2;exact#[E,eu,rfl,kd4 _ _ hE λ_ _ _ z=>(?wQ),B4.kd (λc o e ho=>kd4 c o e λ_ _ _ z=>by rcases ho with⟨_,q⟩|⟨_,q⟩<;>rw[q]at z<;>cases z) rE]]
 apply#[_,rfl,p,Av,dx,_,_,rfl,R7,?bP,?kM,rfl,_,rfl,P,D,xs,bu,ls,rfl,(?RV hP4 NU),Da,HR,hB4,λps hps=>?_,λLf wu H5 nLf s5 hLf dd=>?_]
 . let#[i,hi]:=qf1 hps;exact(v4 i ps hi).ok Da
 have nfp:Lf≠p:=(Aq R7 nLf).symm;have nfa:Lf≠a:=(Aq ha4 nLf).symm;have HN:=s5 _ _ R7;apply(?SN HN ?GV);have hp6:upd H5 p (?SS Lf) p=?UD Av [?w7,?CY,(?g4,?f Lf)]:=?xG
 have fX:?bF p H5 (?H8):=?g2;generalize ?H8=H6 at hp6 fX;have ha6:=?SZ nap ha4;have s06:=fX.same (?JN s5) n0p;have sB:=TL s06 n0a
 have kd6:∀c o,H5 c=?cR->((∃l,o=?C l)\/∃l,o=.dK l)->OU H6 a c=?cR:=λc o e ho=>by
  have ncp:c≠p:=λz=>by rw[z,HN]at e;cases e;ext zN
  have e6:=fX c o ncp e;rw[Mp ?nG]
  . exact e6
  . rw[z,ha6]at e6;cases e6;ext zN
 apply k (OU H6 a) ls H6 (((sx2.trans (?eF s3)).trans yG).trans ((?eF s5).trans fX)) #[#[dx,P,Lv,Lf,ws,wu,?_,(?RV ?_ sB),?_,?DZ,?_,dd.1,λi v e=>?_],hs,Da,hl4,v4,A29] sB oU MH
 . rw[Mp nap.symm];exact hp6
 . rw[Mp nPa];exact ?SZ nPp hP4
 . rw[Mp nLa];exact ?SZ nLp UZ
 . let ?GB:=?BT;have hE5:=s5 _ _ hE;have nEp:E≠p:=λz=>by rw[z,HN]at hE5;cases hE5
   have nEa:E≠a:=λz=>hna _ (qb1 e1) (by rw[z]);exact#[E,eu,rfl,by rw[Mp nEa];exact fX _ _ nEp hE5,B4.kd kd6 (rE.same s5)]
 . rw[Mp nfa];exact fX _ _ nfp hLf
 . let#[c,e1,_,e2]:=dd.2 i v e;exact#[c,e1,rfl,kd6 _ _ e2 (?B ?bG)]
noncomputable abbrev U0:Stmt:=top 90
def Gr:?v [?i5,?cI,?dO,"_law_book",?k0,?h4,?vM,?CR,?j5,"_law_held","_law_kept","_law_turn","_law_copy",?qN] ?m6 (Ar U0):=Bi
def Ad2[?x](F:E9 K ?fL ?fL U0 f fd)[?w](Q9:Has P w K mg ?d ?q0 ?uV 3 (Sx K))(ES:iU P w K mg ?d Av ?t9 12 ?G1)(Pj:K0 P w K mg ?d Av ?xI ?nK 4 ?E5)[?N8](J8:K0 P w K mg ?d Av ?d1 ?xJ 9 ?AN)(L6:Has P w K mg ?d ?LL [?i5,?z4] 1 (Uu K))(Pq:Has P w K mg ?d ?mU ?tT 3 (Ur K))(Ra:Has P w K mg ?d ?qZ ?tU 2 (BW K))(Pp:Has P w K mg ?d ?mR ?pE 1 (Zm K))[?N4](Jw:Has P w K mg ?d ?nB ?yJ 3 (bW K)):?S0 P f:=by
 apply ?PB Gr;let#[a,ns,rfl,hS,hl,Cb3,kq]:=h;ext dJ
 apply#[_,(Ac (?WB 1 (?T6 Q9 (Aa (An L6 hr (Aa ?l ?dM)) (Aa (?X1 (Fr Ak) Ak) ?dM))))
  (Ac (?PH ?b9 (?VS (?T6 L6 (Aa ?l ?dM))))
  (Ac (?P8 ?b9 (Nz ES hr ?g T.m_Book (?VI (?TT ?a0))))
  (Ac (?PG ?b9 (C7 ?r ?bP Pj hr ?aF))
  (Ac (?WU (?VD Pq (?WE ?o ?hN)))
  (Ac (?WB 5 (?T6 Gm (?OP ?o (An Ra hr (Aa ?o (Aa (?WV ?p) (?VI (?X1 (Fr Ak) Ak))))))))
  (Ac (?V7 6 ?b9)
  (Ac (B6 qb8 rfl (?U9 (?VI (?OY ?hN))) (?OT 7 ?b9) (Ac (?WB 8 (?T6 Pp (?VI (An L6 hr (?OP ?l (Bh Cq Ak ?aW))))))
  (Ac (?WB 5 (?T6 Po (?X3 ?c4 (?WS ?D))))
  (Ac (Bx (?P0 cC (?WS ?D)) (Ai (?WB 8 (Bh Eg ?c4 (?P4 (?VJ ?D ?aW))))) Bj)
  (?V8 ?Y ?c4)))))
  (Ac (?WB 9 (?VT (?TO ?cF)))
  (Ac (?WU (?VD Jw (?WE ?o (Aa ?D (?X3 ?Y ?bH)))))
  (Ac (?WB 10 (Es (?WW (?TT (?VI (?P4 ?bH))) (?TO (Aa (?P4 ?bH) Ad)))))
  (Ac (B6 qb8 rfl (?U9 ?dM) (?OT 11 ?b9) (Ac (Br (?VT (?T6 Po (Aa G9 (Aa (Bh Cq Ak ?lD) ?cF)))))
  (Ac (?WB 12 (?TO ?cF))
  (Ac (?WB 13 (?VT ?jB))
  (Ac (?WU (?aH (Ln (Bf (RO (n:=8) On) ?jB ?a1 ?s) (Lm (?VD Jw (?WE ?o (Aa ?D (?X3 ?Y ?kC))))))))
  (Ac (?WN (?P4 ?kC) ?dM)
  (Ai (Rw ?dA (?P4 ?kC) Ak Ak ?g))))))))
  (?VG (Kv (?P6 jZ On) ?bH ?mV ?s)))))))))))))),?_]
 ext I
 apply ?OO (λσ' H'=>Nl λ(p1:Addr) ?v5 (xs:LLInt)=>Hz (σ'=[?j,?aE,none,none,none,none,none,none,none,none,none,none,none,none]) ?a7 (H' p1=?gY) (?d2 K H' us (xs.map tI)) (Ce xs) (xs.length<=40))
 . apply#[_,rfl,a,ns,0,rfl,hS,?E,hl,_,rfl,_,rfl,_,rfl,a,_,rfl,hS,?pL];have sC:?QU H H:=?y hC;have hcl:=?CK;apply#[C,?K2,_,20,rfl,?_,O9m,?E,?E,λp1 us1 H1 zs hp1 s1 Bq2 r1 hsh hzl=>?_]
   . rw[←IF];exact ?bV
   . exact ?OQ #[p1,us1,zs,rfl,?ML s1,Bq2,r1,hsh,O9m]
 apply YB λp1 us xs H1 s1 hp1 r hs Da=>?_;intro sq;have hS1:=?e7 hS;have h4:=Rt hs;apply ?OO (λσ' H'=>Ea λ(k:Nat)=>Ev (?T8 none none) (H1=H') (k<4))
 . apply#[_,rfl,a,ns,1,rfl,hS1,?E,hl,_,_,rfl,rfl,(?E:?b0<4),?_];generalize hv:Xj ns 1%4=v;have m0:0<=v:=hv▸ ?yV;have m1:v<4:=hv▸ ?r8;let#[kk,rfl]:=qp3 m0;exact ?OQ #[kk,rfl,rfl,O9m]
 apply qL λk Yu=>?_;intro sq;apply ?OO (λσ' H'=>Nl λ(p:Addr) (B:Hp) ?BP=>By (?T8 ?q none) (FP K Av B p xs ls) (?h H1 B) (?U7 B))
 . apply#[_,rfl,p1,us,rfl,?m (.of hp1),λC nC=>?_];have s2:?h H1 (?GP):=?y nC;have hC:upd H1 C ?rY C=?gY:=Ab;generalize ?GP=H2 at s2 hC ⊢;intro p dx np YO Ad5;have s3:?h H2 (upd (upd H2 dx (.own p)) p (?N Av dx [])):=?n4 np;apply#[p,dx,C,us,H1,xs,rfl,Ab,?QS hC,r,?dU,nC,?jV np,hs,Da,λB ls H4 sx bk s1B sBH nB=>?l3];exact ?OQ #[p,B,ls,rfl,bk,s1B,sBH]
 apply LI λp B ls H4 bk s1B sB4=>?_;intro sq;have hLB:LT K B (?f p1) xs:=#[p1,us,rfl,?OU s1B hp1,?b2 s1B r]
 have hSB:=s1B.seq hS1;let#[dx,P,Lv,Lf,lu,wu,hp,_]:=bk.ob;ext O8;obtain⟨ps,hps⟩:∃ps,ls[k]?=?c ps:=#[_,qa0 (by have:=bk.n4;omega)]
 have lv:=?KE;have hpl:=lv.len Da;ext zO;have n40:?tL<=40:=O9m
 have ho:=lv.holes Da;have hrr:=lv.rounds hs Da;ext MZ;apply ?OO (λσ' H'=>Nl λ(hd:Addr) (O:Hp) (hu:?eB)=>By (?T8 ?q ?aA) (?U7 B) (?VP hd hu) (El O H' hu ?eA))
 . apply#[_,rfl,p,dx,_,rfl,?RB sB4,rfl,_,rfl,p,?T,B,xs,ls,rfl,bk,sB4,O9m,O9m,λps' D us' G1 A34 nD g1 hD rP=>?_];rw[show(?T).toNat=k by omega,hps]at A34;cases A34;exact ?OQ #[D,_,us',rfl,sB4.trans g1,hD,rP]
 apply LI λhd O hu H5 sB5 XD rP=>?_;intro sq;apply ?OO (λσ' H'=>?T8 ?q ?aA/\?tA)
 . apply#[_,rfl,_,rfl,_,rfl,p1,hd,xs,?T,hu,?e0,O,rfl,?F sB5 hLB,XD,rP,ho,λH6 s6=>?d3];ext aY;exact ?OQ #[rfl,s6]
 apply F7 λH6 s6=>?_;intro sq;have yH:=sB5.trans s6;apply ?OO (λσ' H'=>Ko λ ?tX ?t7=>C9 (σ'=[?j,?aE,?Q,?q,?aA,?z,none,none,none,none,none,none,none,none]) (?W0 B b) (?U7 H6) ?BC (Hm xs ?T ?eA 0 [] c))
 . apply#[_,rfl,_,rfl,_,rfl,_,_,rfl,rfl,_,rfl,_,rfl,_,rfl,a,_,rfl,?IW,?pL];have sC:?QU H6 H6:=?y hC;have hcl:=?CK;apply#[p1,C,xs,?gM,?K2,rfl,?F (?s6 sC) hLB,Da,?_,O9m,λD m G nD sG hD hm bm=>?_]
   . rw[←IF];exact ?bV
   . apply#[p1,D,xs,m,rfl,?F ((?s6 sC).trans sG) hLB,hD,by have:=hm.ok.len;omega,h4,λq hq=>(hm.lvok.part q hq).1,λb G2 nb g2 hb=>?_];exact ?OQ #[b,_,rfl,((?s6 sC).trans sG).free nb,(?ML sG).trans g2,hb,Hm.first hs ti Da Yu hps hm bm]
 apply qK λb0 c0 H7 Bm5 s7 hb0 dr0=>?_;intro sq;apply ?OO (λσ' H'=>Ea λ(d:Addr)=>By (σ'=[?j,?aE,?Q,?q,?aA,rS b0,?aO,none,none,none,none,none,none,none]) (?W0 H7 d) (?U7 H7) (H' d=?pM))
 . exact#[?bL,λd hd=>?OQ #[d,rfl,hd,?y hd,Ab]]
 apply Mf λd H8 nd7 s8 hd8=>?_;intro sq;have s68:=s7.trans s8;have nd6:?W0 H6 d:=s7.free nd7;have nbd:b0≠d:=Aq hb0 nd7;have ul:=rP.1;apply ?OO (λσ' H'=>lG λ ?tX ?t7 ?DE ?tJ=>V5 (σ'=?M6) (b≠d) (?W0 B b) (?W0 B d) (?U7 H6) ?BC (?VP d (?fZ ?S)) (Hm xs ?T ?eA ?tL ms c) (ds=?gO))
 . apply#[_,rfl,hd,hu,rfl,?UK s68 (s6 _ _ XD),_,rfl,O9m,O9m,?_]
   let Bx5:?aQ:=λi σ G=>lG λ ?tX ?t7 ?DE ?tJ=>V5 (σ=?M6) (b≠d) (?W0 B b) (?h H6 G) (G b=?wN) (G d=?TC (?fZ ?S)) (Hm xs ?T ?eA i ms c) (ds.length=i) (∀(j:Nat) q,j<i->?eA[j]?=?cV->ds[j]?=?c (HY q (ms.getD j 0)))
   apply Ch (lo:=0) (n:=hu.length) Bx5
    #[b0,c0,[],[],_,_,rfl,nbd,Bm5,s68,s8 _ _ hb0,hd8,dr0,rfl,λj q hj=>O9m] ?_ ?_
   . ext lY
     ext U
     revert σ;ext ND;obtain⟨q,hq⟩:∃q,?eA[i]?=?cV:=?fU
     obtain⟨v,hv⟩:∃v,hu[i]?=?bE:=?fU
     let ?CV:=(?pT (?EI g)).2 i v q hv hq;have hqm:=?p4;have pb:=?JU;have i0:?h5=?q4:=O9m
     have atu:BP hu ?oX=?QD t1:=?BO
     apply ?PY [?j,?aE,?Q,?q,?aA,?z,?aO,?cO,?f6,none,none,none,none,none];ext a8
     . exact#[_,rfl,_,rfl,_,_,rfl,rfl,a,ns,2+(0+?aP),rfl,?jY (?IW),O9m,hl,_,rfl,λn hn=>?Q7 #[n,rfl,rfl,hn]]
     rintro _ _ ⟨n,rfl,rfl,hn⟩;apply ?VN (λσ' H'=>Ea λ(b2:Addr)=>C9 (σ'=[?j,?aE,?Q,?q,?aA,rS b2,?aO,?cO,?f6,none,none,none,none,none]) (b2≠d) (B b2=none) (?kN) (H' b2=?TJ (Dh (j6 c n ?rQ q.2.1.length))));ext a8
     . apply#[_,rfl,_,rfl,_,rfl,_,rfl,hd,hu,_,_,rfl,rfl,?OU g (?UV XD),atu,t1,_,_,_,rfl,rfl,?d9,rfl,b,c1,n,c,?rQ,rfl,V6,e1,dr.ch.ok.n,?xE,?BZ,?B7,?C1,λb2 G1 nb2 g1 hb2=>?_]
       . rw[←pb.r.ok.val hx];exact Lu hn (pb.rb _) (by unfold AF bookF;decide)
       . exact ?Q7 #[b2,rfl,(λz=>by rw[z,hdG]at nb2;cases nb2),yH.free (?rB nb2),g1,hb2]
     apply LJ λb2 G1 Az6 Bm4 g1 hb2=>?_;intro sq;have et1:=?xC;apply ?VN (λσ' H'=>σ'=[?j,?aE,?Q,?q,?aA,rS b2,?aO,?cO,?T7 (HY q n),none,none,none,none,none]/\G1=H');ext a8
     . unfold HY at Et;apply#[_,rfl,_,rfl,hd,hu,_,_,rfl,rfl,?OU g1 (?W5 g),atu,t1,_,_,_,rfl,rfl,?uZ,rfl,_,_,rfl,rfl,_,rfl,?_];ext bR
       . have h1:0<q.1:=?Z
         rw[?xO]at Et;exact#[_,rfl,_,rfl,_,rfl,hd,hu,_,_,rfl,rfl,?OU g1 (?W5 g),atu,t1,_,_,_,rfl,rfl,?uZ,rfl,_,_,rfl,rfl,h1,?vA]
       . have h1:¬0<q.1:=?Z
         rw[?wI]at Et;exact ?vA
     ext eE;have A43:=g1 _ _ hdG;apply#[_,rfl,?P7 A43,_,rfl,d,_,_,rfl,rfl,A43,?gH,b2,_,ms++[n],ds++[HY q n],_,_,rfl,Az6,Bm4,?I7 nd6,by rw[Al Az6];exact hb2,by rw[Ab,qb4];rfl,dr.next hrr hq pb hn,by rw[qc6,dl];rfl,λj x hj hx=>?_];have ml:=dr.len;by_cases hj2:j<i
     . rw[?tG,dd j x hj2 hx,qa1,qa1,?tG]
     . have:j=i:=O9m
       subst this;rw[hq]at hx;cases hx;rw[?u2,dl,qh8,qa1,?u2,ml,qh8];rfl
   . ext aR;ext ND;rw[ul]at dr dl dd;exact ?OQ #[b,c,ms,ds,_,_,rfl,nbd,nBb,yH.free nd6,g,V6,hdG,dr,dr.dues (λq hq=>(?xZ).nn) dl λj q hq=>dd j q ?lA hq]
 apply Ar8 λb c ms ds o7 o8 H9 nbd nBb nBd s9 hb9 hd9 dr zr7=>?_;intro sq;subst zr7;have rok:=dr.ok n40;have mul:∀q∈?e0,?M4/\∀t∈?rQ,?LG ?AE t.2:=λq hq=>#[?xZ,dr.mul hq (?xZ)]
 have sB9:=?s6 s9;have A41:=?W5 s9;have rP9:=?pT (?EI s9);have hL9:=?F sB9 hLB;have cn:=dr.ch.ok.n;apply ?OO (λσ' H'=>Tb λ(t N D:Addr) ?xB=>Hz (?W3 none) (?U7 H9) (H' t=?c (?C [?mL,?kI])) (H' N=?l1) ?BM (fP xs ?T ?eA c m))
 . apply#[_,rfl,p,dx,_,rfl,?RB sB9,rfl,_,rfl,_,rfl,b,_,rfl,?m hb9,?fI];have sE:?h H9 (upd H9 E (?OX c)):=?iN;exact#[p,E,k,B,xs,ls,ps,c,rfl,bk,?BQ sE,sB9.free hE,Yu,hps,Ab,rok,λT N D m H' nT nN nD _ _ _ g hT hN hD hr0=>?OQ #[T,N,D,m,rfl,sE.trans g,hT,hN,hD,hr0]]
 apply YA λt N D m H10 s10 ht hN hD hr0=>?_;intro sq;apply ?OO (λσ' H'=>?W3 none/\?U7 H10)
 . apply#[_,rfl,_,rfl,_,rfl,_,rfl,_,rfl,_,rfl,p1,hd,b,d,t,N,D,O,xs,?T,hu,?e0,c,m,rfl,?F s10 hL9,hs,Da,#[s10 _ _ A41,n40],?CI s10,mul,#[s10 _ _ hb9,dr.ch],s10 _ _ hd9,ht,hN,hD,hr0,λH11 s11=>?d3];ext aY;exact ?OQ #[rfl,s11]
 apply F7 λH11 s11=>?_;intro sq;apply ?OO (λσ' H'=>Nl λ(t2 N2 D2:Addr)=>C9 (?W3 ?g0) (?U7 H11) (H' t2=?c (?C [?f N2,?d4])) (H' N2=?l1) (H' D2=?pQ))
 . apply#[_,rfl,t,_,_,_,rfl,rfl,?OU s11 ht,rfl,N,_,rfl,?UK s11 hN,λN2 nN2=>?_];have sN:?h H11 (?JX):=?y nN2;have hN2:upd H11 N2 (?n (?W1 ?gO)) N2=?l1:=Ab;generalize ?JX=G1 at sN hN2 ⊢;have s1G:=?K4 sN;apply#[_,rfl,t,_,_,_,rfl,rfl,?OU s1G ht,rfl,D,_,rfl,?Q3 s1G hD,λD2 nD2=>?_];have sD:?h G1 (?FO):=?y nD2;have Nd:upd G1 D2 (?OX m) D2=?pQ:=Ab;generalize ?FO=G2 at sD Nd ⊢;apply#[(by show 2<=sizeLine;decide),λt2 nt2=>?_];have st:?h G2 (upd G2 t2 (?C [?f N2,?d4])):=?y nt2;exact ?OQ #[t2,N2,D2,rfl,(sN.trans sD).trans st,Ab,st _ _ (sD _ _ hN2),st _ _ Nd]
 apply yC λt2 N2 D2 H12 s12 ht2 hN2 Nd=>?_;intro sq;have Bj9:=(s10.trans s11).trans s12;have Aw4:=?K4 s12;apply ?OO (λσ' H'=>Nl λ ?KC=>σ'=?GQ/\?U7 H12)
 . apply ?C2
   let Bx4:?aQ:=λi σ G=>Nl λ ?KC=>σ=?GQ/\?h H12 G
   apply Ch (lo:=0) (n:=2) Bx4 #[_,_,_,rfl,?jZ _] ?_ ?_
   . ext lY
     ext U
     revert σ;apply ?qO;intro o11 LW JQ g Er;have s9G:=Bj9.trans g;have sBG:=?BQ s9G;apply ?VN (λσ' H'=>σ'=(?UE ?cO)/\?kN);ext a8
     . apply#[_,rfl,p,dx,_,rfl,?RB sBG,rfl,_,rfl,λZ nZ=>?_];have sZ:?h G (upd G Z ?h7):=?y nZ;apply#[_,rfl,_,_,rfl,rfl,_,rfl,Z,b,2+(0+?aP),[],c,rfl,Ab,sZ _ _ (s9G _ _ hb9),qv8,cn,?E,?BZ,λx hx=>T5 O9m O9m,λE G1 nE g1 hE=>?_];have sG1:=sZ.trans g1;exact#[p,E,k,B,xs,ls,ps,_,rfl,bk,?uD sG1,(?uD sZ).free nE,Yu,hps,hE,dr.many n40 (by have:i<2:=hi;omega),λT N' D' m' H' nT nN nD _ _ _ g2 hT hN hD hr1=>?Q7 #[rfl,sG1.trans g2]]
     ext sP;have Av8:=s9G.trans g1;have Av6:=?uD g1;apply ?VN (λσ' H'=>Ea λ ?hC=>By (σ'=[?j,?aE,?Q,?q,?aA,?z,?aO,o7,o8,?b6,?g0,?cO,rS E,JQ]) (G1 E=none) ?jG (H' E=?wN));ext a8
     . exact#[_,rfl,b,_,rfl,?Q3 Av8 hb9,λE hE=>?Q7 #[E,rfl,hE,?iN,Ab]]
     apply Mf λE G2 nE g2 hE=>?_;intro sq;have Av5:=Av6.trans g2;have Bj7:=Av8.trans g2;apply ?VN (λσ' H'=>Tb λ(t3 N3 D3:Addr) (m3:Ms)=>DH (?PD o8) (G2 N3=none) (G2 D3=none) (N3≠D3) (t3≠N3) (?U7 G2) (H' t3=?c (?C [?f N3,?f D3])) (H' N3=?l1) (H' D3=?TJ m3) (fP xs ?T ?eA c m3));ext a8
     . exact#[_,rfl,p,dx,_,rfl,?RB Av5,rfl,_,rfl,_,rfl,p,E,k,B,xs,ls,ps,c,rfl,bk,Av5,Av6.free nE,Yu,hps,hE,rok,λT N' D' m' H' nT nN nD n1 _ n3 g3 hT hN hD hr1=>?Q7 #[T,N',D',m',rfl,nN,nD,n3,n1,g3,hT,hN,hD,hr1]]
     apply As3 λt3 N3 D3 m3 G3 nN3 nD3 n3 nt3 g3 ht3 hN3 fS hr3=>?_;intro sq;have nU:=Bj7.trans g3;apply ?VN (λσ' H'=>?PD o8/\?EC);ext a8
     . apply#[_,rfl,_,rfl,E,b,c,c,rfl,rfl,?Q3 g3 hE,?m (?CU),_,rfl,?_];rw[Z1 cn];ext aY;apply#[_,rfl,_,rfl,_,rfl,_,rfl,_,rfl,_,rfl,p1,hd,b,d,t3,N3,D3,O,xs,?T,hu,?e0,c,m3,rfl,?F nU hL9,hs,Da,#[nU _ _ A41,n40],?CI nU,mul,#[?CU,dr.ch],nU _ _ hd9,ht3,hN3,fS,hr3,λG4 g4=>?d3];ext aY;exact ?Q7 #[rfl,g4]
     apply F7 λG4 g4=>?_;intro sq;have hN4:=g4 _ _ hN3;have ht4:=g4 _ _ ht3;have HR:=g4 _ _ fS;have qY:?h H12 G2:=?QH ?iF g2;have Aw3:?h H12 G4:=(qY.trans g3).trans g4;have Bm0:?W0 H12 N3:=qY.free nN3;have Bm3:?W0 H12 D3:=qY.free nD3;have Bm9:=hr3.ch.ok.len;apply ?VN (λσ' H'=>Ea λG5=>C9 (?PD o8) (H'=G5) (?h H12 G5) (G5 t3=?c (?C [?f N3,?f D3])) (G5 D3=?TJ m3));ext a8
     . apply#[_,rfl,t3,_,_,_,rfl,rfl,.of ht4,rfl,?P7 hN4,N3,_,_,rfl,rfl,hN4,?cQ (by rw[qa4,qa4];omega),?Q7 #[_,rfl,rfl,Aw3.turn Bm0,by rw[Al nt3];exact ht4,by rw[Al n3.symm];exact HR]]
     rintro _ _ ⟨G5,rfl,rfl,Aw2,ht5,hD5⟩;exact#[_,rfl,t3,_,_,_,rfl,rfl,.of ht5,rfl,D3,_,rfl,Sc hD5 O9m,_,_,_,rfl,Aw2.turn Bm3]
   . ext aR;apply ?qO;intro o11 LW JQ g Er;exact ?OQ #[_,_,_,rfl,g]
 apply As7 λo11 LW JQ H13 vQ=>?_;intro sq;have QY:=Aw4.trans vQ;apply#[_,rfl,_,rfl,t,t2,_,_,rfl,rfl,?OU QY ht,?OU vQ ht2,#[rfl,λi v w e1 e2=>?_],kq _]
 match i with
 | 0 =>
   cases e1;cases e2;apply#[.d (?n (E4 (?gO))),.d (?n (E4 (?gO))),#[#[N,_,rfl,?OU QY hN,?kR],?_],#[#[N2,_,rfl,?OU vQ hN2,?kR],?_],Re _]<;>(show deps (E4 (?gO))+1<=6;rw[Oa];decide)
 | 1 =>
   cases e1;cases e2;exact#[.c m,.c m,#[D,rfl,?Q3 QY hD],#[D2,rfl,?Q3 vQ Nd],Z1 hr0.ch.ok.n]
 | i+2=>cases e1
universe e9
def Iy[?iV](h:∀a0,P [a0])[?j0](hl:?PW 1):?iE:=by
 cases us with
 | nil=>ext aC
 | cons a0 u0 =>
   cases u0 with
   | nil=>exact h a0
   | cons _ _=>simp at hl
def En[?iV](h:∀a0 a1,P [a0,a1])[?j0](hl:?PW 2):?iE:=by
 cases us with
 | nil=>ext aC
 | cons a0 u0 =>
   cases u0 with
   | nil=>ext aC
   | cons a1 u1 =>
     cases u1 with
     | nil=>exact h a0 a1
     | cons _ _=>simp at hl
def F1[?iV](h:∀a0 a1 a2,P [a0,a1,a2])[?j0](hl:?PW 3):?iE:=by
 cases us with
 | nil=>ext aC
 | cons a0 u0 =>
   cases u0 with
   | nil=>ext aC
   | cons a1 u1 =>
     cases u1 with
     | nil=>ext aC
     | cons a2 u2 =>
       cases u2 with
       | nil=>exact h a0 a1 a2
       | cons _ _=>simp at hl
def ZE[?iV](h:∀a0 a1 a2 a3,P [a0,a1,a2,a3])[?j0](hl:?PW 4):?iE:=by
 cases us with
 | nil=>ext aC
 | cons a0 u0 =>
   cases u0 with
   | nil=>ext aC
   | cons a1 u1 =>
     cases u1 with
     | nil=>ext aC
     | cons a2 u2 =>
       cases u2 with
       | nil=>ext aC
       | cons a3 u3 =>
         cases u3 with
         | nil=>exact h a0 a1 a2 a3
         | cons _ _=>simp at hl
def tV[?iV](h:∀a0 a1 a2 a3 a4,P [a0,a1,a2,a3,a4])[?j0](hl:?PW 5):?iE:=by
 cases us with
 | nil=>ext aC
 | cons a0 u0 =>
   cases u0 with
   | nil=>ext aC
   | cons a1 u1 =>
     cases u1 with
     | nil=>ext aC
     | cons a2 u2 =>
       cases u2 with
       | nil=>ext aC
       | cons a3 u3 =>
         cases u3 with
         | nil=>ext aC
         | cons a4 u4 =>
           cases u4 with
           | nil=>exact h a0 a1 a2 a3 a4
           | cons _ _=>simp at hl
def A70[?iV](h:∀a0 a1 a2 a3 a4 a5,P [a0,a1,a2,a3,a4,a5])[?j0](hl:?PW 6):?iE:=by
 cases us with
 | nil=>ext aC
 | cons a0 u0 =>
   cases u0 with
   | nil=>ext aC
   | cons a1 u1 =>
     cases u1 with
     | nil=>ext aC
     | cons a2 u2 =>
       cases u2 with
       | nil=>ext aC
       | cons a3 u3 =>
         cases u3 with
         | nil=>ext aC
         | cons a4 u4 =>
           cases u4 with
           | nil=>ext aC
           | cons a5 u5 =>
             cases u5 with
             | nil=>exact h a0 a1 a2 a3 a4 a5
             | cons _ _=>simp at hl
set_option maxHeartbeats 4000000 in
noncomputable abbrev nS(K:W.Frag)(s:Str)(a:Addr):Prop:=?HQ=?c (?c ?jH)
noncomputable abbrev nN9(K:W.Frag)(s:Str):Prop:=?HQ=?bI
noncomputable abbrev kO(K:W.Frag)(a b:Addr)(v:Bool):Prop:=PySem.W.kitOne K ?jH (?p0)=?bE
def all_mk{l:PySem.W.OpenLaw}{w:World}{K:W.Frag}{h:Heap}{mg:?vX}{fa:Addr}{Ag:Addr}
 {Af:Addr}
 {Aj:Addr}
 {Av:Addr}
 {Hi:Addr}{g7 aI:OAddr}{Zv:Td}{g8 n6 z7 b6 Ri aB:Value}
 {Ix:Addr}{aZ bQ:OAddr}{aR:Td}{AZ BD bF AU S8 BL:Value}
 {Ka:Addr}{DZ FN:OAddr}{dP:Td}{EA eN eZ dU Vv fG:Value}
 {Ak1:Addr}{Ay5 ZH:OAddr}{Av1:Td}{Ay6 ZA zF yL UE ZF:Value}
 {Xq:Tok}
 {No:Tok}
 {Sr:Tok}
 {EV:Addr}{wR:Nat}{QS:Td}{NK nK NJ nJ NI:Tok}
 {L7:Addr}{i7:Nat}{Yg:Td}{Wf We Wd Wc:Tok}
 (X:K.In h) (G:?HD) (hfa:mg ?fL=?QD fa)
 (uH:nS K "Lines" Ag)
 (qA:nS K "Stairs" Af)
 (xU:nS K "Work" Aj)
 (xV:nS K "Book" Av)
 (KP:?Q1 ?JV Tp)
 (Xe:?Q1 ?L8 Jh)
 (KO:?Q1 ?MO To)
 (BG:?Q1 ?FQ Mv)
 (TZ:?Q1 ?GC Z5)
 (xJ:?Q1 "times" DR)
 (XI:?Q1 "weigh" dR)
 (Xg:?Q1 ?H5 Jj)
 (TY:?Q1 ?MA Z3)
 (pJ:?Q1 ?FW Wn)
 (xK:?Q1 "mixed" dS)
 (EZ:?Q1 ?EU Ov)
 (uA:?Q1 ?JC Z6)
 (bR:?a4 K ?e2 ?cK=?c (?c ?p6))
 (v3:?PU ?uY ?p6)
 (BC:?h1 Hi=?c #[g8,g7,?mY (?oW ?cK ?AA (Jx Ff) (Ht Ff) (Ar Ff) ?mD n6 z7 b6 aI Ri aB),Zv])
 (bO:?mE K Ri ?AA=true)
 (S0:?PU ?eI ?p6)
 (kM:?Q1 ?AH Tk)
 (BF:?Q1 ?KL Mu)
 (Vq:?Q1 ?KM Io)
 (PL:?Q1 ?MF Wr)
 (PM:?Q1 ?MH Ws)
 (Sm:?Q1 ?DD Gy)
 (iE:?Q1 ?LL Qp)
 (fD:?Q1 ?J6 Oz)
 (ID:?Q1 ?rW Qo)
 (bJ:?Q1 ?mR M0)
 (Xf:?Q1 ?rJ Ji)
 (Ak6:?Q1 ?oS jH)
 (Vr:?Q1 ?q2 Ip)
 (Sj:?Q1 ?r4 Gv)
 (pL:?Q1 ?m3 Wq)
 (Ak7:?Q1 ?oJ JH)
 (FA:?Q1 ?o9 Ow)
 (iC:?Q1 ?pZ Qm)
 (TX:?Q1 ?p7 Z2)
 (fO:?a4 K ?e2 ?eH=?c (?QD Ix))
 (S3:?PU ?uY (?f Ix))
 (EL:?h1 Ix=?c #[AZ,aZ,?mY (?oW ?eH ?y0 (Jx Fw) (Ht Fw) (Ar Fw) ?mD BD bF AU bQ S8 BL),aR])
 (fK:?mE K S8 ?y0=true)
 (Ph:?PU ?eI (?f Ix))
 (Yx:T6 K Af ?cK ?MJ Kh)
 (FD:?Q1 ?rF O0)
 (bK:?Q1 ?pN M3)
 (UA:?Q1 ?s0 Z7)
 (FE:?Q1 ?qZ O5)
 (aA:?Q1 ?mG Lk)
 (Si:?Q1 ?q9 Gu)
 (BH:?Q1 ?oR Mx)
 (kQ:?Q1 ?pK Tq)
 (pI:?Q1 ?qV Wm)
 (KS:?Q1 ?p5 Tu)
 (iO:?a4 K ?e2 ?c7=?c (?QD Ka))
 (Vb:?PU ?uY (?f Ka))
 (HK:?h1 Ka=?c #[EA,DZ,?mY (?oW ?c7 ?v4 (Jx Gh) (Ht Gh) (Ar Gh) ?mD eN eZ dU FN Vv fG),dP])
 (IJ:?mE K Vv ?v4=true)
 (Q6:?PU ?eI (?f Ka))
 (bI:T6 K Aj ?cK ?EE My)
 (KN:?Q1 ?m7 Tm)
 (PJ:?Q1 ?pB Wo)
 (BJ:?Q1 ?mU M1)
 (fC:?Q1 ?q0 Oy)
 (AA:?Q1 ?nB Ll)
 (Ak9:?Q1 ?rT jI)
 (pK:?Q1 ?pC Wp)
 (Sl:T6 K Af ?vR ?M2 Gx)
 (fB:T6 K Aj ?wH ?F2 Ox)
 (kN:?Q1 ?pY Tl)
 (fF:T6 K Av ?xI ?DR O6)
 (kR:?Q1 ?pJ Ts)
 (z8:?Q1 ?sD Li)
 (BI:T6 K Af ?wG ?M0 Mz)
 (Yv:T6 K Af ?x4 ?LM Kf)
 (Sk:T6 K Aj ?y3 ?E4 Gw)
 (Nf:?Q1 ?pR Fa)
 (KQ:?Q1 ?r5 Tr)
 (Yw:T6 K Af ?yR ?F7 Kg)
 (tZ:?Q1 ?qR Z4)
 (pG:?Q1 ?n5 Wl)
 (bH:?Q1 ?qT Mw)
 (z9:?Q1 ?m0 Lj)
 (IC:T6 K Aj ?xK ?DO Qn)
 (Vs:T6 K Aj ?w4 ?GY Iq)
 (IE:T6 K Av ?d1 ?MB Qq)
 (KR:?Q1 ?qS Tt)
 (kT:?Q1 ?oA Tv)
 (BK:T6 K Av ?cK ?HH M4)
 (Bx2:nS K ?fL Ak1)
 (Bn6:?h1 Ak1=?c #[Ay6,Ay5,?mY (?FZ),Av1])
 (Bw7:?mE K UE ?fL=true)
 (Bo3:?PU ?eI (?f Ak1))
 (AL:?a4 K ?fY ?eH=?c (?QD Ix))
 (BQ:?a4 K ?fY ?c7=?c (?QD Ka))
 (oO:PySem.W.readsIn K Ag (.type "type")=true)
 (oQ:PySem.W.findCls K ?e2 (.type "type") ?cK=?c (.val ?p6))
 (OP:PySem.W.specialIn K ?e2 "__getattribute__"=?c (?c (?E1 "type.__getattribute__")))
 (SK:?PU ?o4 Ag)
 (SY:?PU ?eI ?e2)
 (oH:?PU ?o4 Af)
 (ON:?PU ?eI ?fY)
 (WT:?PU ?o4 Aj)
 (WY:?PU ?eI ?fJ)
 (wU:?PU ?o4 Av)
 (wZ:?PU ?eI ?k4)
 (RI:?RA Ag)
 (TM:?PU ?q5 Ag)
 (RE:?PU ?sE Ag)
 (QX:?RK ?e2)
 (qy2:?PQ ?e2 ?dH)
 (qy3:?PQ ?e2 ?fQ)
 (NY:?RA Af)
 (oV:?PU ?q5 Af)
 (NX:?PU ?sE Af)
 (NT:?RK ?fY)
 (qy4:?PQ ?fY ?dH)
 (qy5:?PQ ?fY ?fQ)
 (qy6:?PQ ?fY "starts")
 (wB:?RA Aj)
 (XE:?PU ?q5 Aj)
 (VW:?PU ?sE Aj)
 (VO:?RK ?fJ)
 (qy7:?PQ ?fJ ?a6)
 (qy8:?PQ ?fJ ?bB)
 (qy9:?PQ ?fJ ?f9)
 (qz0:?PQ ?fJ ?h0)
 (qz1:?PQ ?fJ ?fX)
 (WB:?RA Av)
 (xF:?PU ?q5 Av)
 (vX:?PU ?sE Av)
 (vP:?RK ?k4)
 (qz2:?PQ ?k4 ?i0)
 (qz3:?PQ ?k4 ?CX)
 (qz4:?PQ ?k4 ?g4)
 (XU:nS K "GAPS" EV)
 (wX:?h1 EV=?c #[.type ?iB,?k,.seq #v[?e 32 NK,?e 16 nK,?e 8 NJ,?e 4 nJ,?e 2 NI] wR,QS])
 (aL:nS K "FACE_COUNTS" L7)
 (j8:?h1 L7=?c #[.type ?iB,?k,.seq #v[?e 0 Wf,?e 2 We,?e 3 Wd,?e 4 Wc] i7,Yg])
 (fN:?S7 "MOST_ROWS" (?e 40 Xq))
 (PZ:?S7 "LEVELS" (?e 4 No))
 (AH:?S7 "MOST_PIECES" (?e 40 Sr))
 (dJ:?RS "isinstance")
 (Ar2:?RS "int")
 (zV:?RS "bool")
 (VD:?RS ?iB)
 (Aq7:?RS "zip")
 (Ar0:?RS "max")
 (Ar1:?RS "len")
 (Ar4:?RS "all")
 (vE:?RS "range")
 (ZU:?RS "dict")
 (Ar3:?RS "any")
 (Aq8:?RS "sum")
 (zU:?RS ?eM)
 (fU:?RS "enumerate")
 (Aq9:?RS "min") :
 ∃fd:FuncData,(∀(s:Shared) (v:Value),BindsTo s fd #[[v],[]] [(?i5,v)])/\∀base:Heap,K.In ?d->?EL->?S0 ?dF fa:=by
 have e:=hfa.symm.trans (?QT Bx2);cases e;have T:?J7:=#[?QT uH,#[RI,TM,RE,QX],qy2,qy3,?QT qA,#[NY,oV,NX,NT],qy4,qy5,qy6,?QT xU,#[wB,XE,VW,VO],qy7,qy8,qy9,qz0,qz1,?QT xV,#[WB,xF,vX,vP],qz2,qz3,qz4,#[EV,?QT XU,λH=>?B #[_,_,_,wX,rfl,rfl,rfl,(?S6 5),?l8 ?bG (?AS)]],#[L7,?QT aL,λH=>?B #[_,_,_,j8,rfl,rfl,rfl,(?S6 4),?AS]],#[_,?QT fN],#[_,?QT PZ],#[_,?QT AH],?Q2 dJ,?Q2 Ar2,?Q2 zV,?Q2 VD,?Q2 Aq7,?Q2 Ar0,?Q2 Ar1,?Q2 Ar4,?Q2 vE,?Q2 ZU,?Q2 Ar3,?Q2 Aq8,?Q2 zU,?Q2 fU,?Q2 Aq9]
 have Jz:=EU (st:=Ff) BC bO S0;have K3:=EU (st:=Fw) EL fK Ph;have Mr:=EU (st:=Gh) HK IJ Q6;have B24:=EU (st:=U0) Bn6 Bw7 Bo3;apply#[?FZ,λs v=>.of_eq rfl,λbase _ _=>?_];have uu:=@Bq ?dF w K mg ?d h X G;have uv:=@Jv ?dF w K mg ?d;have Gk:=?P5 KP GS;have Hs:=?PE Xe U4;have Gj:=?P5 KO gS;have Pm:=?PE BG c9;have R9:=?U8 TZ (λF=>OC F T);have Pk:=?PE xJ RS;have KC:=?PE XI RQ;have Km:=?P5 Xg U6;have eU:=?PE TY oB;have v9:=?PE pJ JN;have Jm:=?UZ xK (λF=>RT F T);have Q7:=?PE EZ aV;have Y8:=?P5 uA OD;have v7:?UX ?dF:=#[_,_,#[oO,oQ,OP,S0],?JD,P3 Jz T]
 have L4:?SY ?dF:=#[_,_,#[SK,bR,v3,SY],?JD,P3 Jz T]
 have N7:=?P5 kM GQ;have Pl:=?P5 BF c8;have Jl:=?P5 Vq Tz;have Hh:=?P5 PL JP;have N9:=?P5 PM jQ;have Dg:=?P5 Sm Q1;have L6:=?PE iE DY;have Id:=?PE fD aX;have T8:=?U8 ID (λF=>dY F T);have Pp:=?P5 bJ f7;have Ex:=?UR Xf (?P9 U5 Gk);have Vg:=?UR Ak6 (?P9 WJ R9);have Bs:=?UR Vr (?P9 T3 Gj);have Hx:=?UR Sj (?P9 Qx Gk);have C8:=?UR pL (?P9 jP eU);have S5:=uu Ak7 (?P9 wK v9) ?aG;have Q8:=?U8 FA (?P9 AV Jm);have T7:=?U8 iC (?P9 dX R9);have Ve:=?UR TX (?P9 OA Jm);have M9:?PR ?dF Ag:=#[_,_,#[fO,S3,Ph],?JE,?KR]
 have Kl:?PR ?dF Af:=#[_,_,#[AL,S3,Ph],?JE,?KR]
 have W5:=ET oH ON (P:=l.prog) (w:=w) (base:=base) Yx (?P9 Wx v7) ?a2;have Fp:=?U8 FD (λF=>AX F T Hh N9);have Gm:=?UR bK (?P9 f9 Dg);have Po:=?U8 UA (?P9 oE Dg);have Ra:=?U8 FE (?P9 aY N9);have Nc:=?U8 aA (?P9 Ym Id);have Df:=?U8 Si (λF=>Qw F T Ex Gj);have D9:=?UR BH (?P9 d8 Ex);have W8:=?UR kQ (?P9 gU Hx);have L5:=?U8 pI (?P9 jN Q8);have N8:=?U8 KS (?P9 GW Bs);have Kz:?PS ?dF Ag:=#[_,_,#[iO,Vb,Q6],?GD,?HF]
 have Cz:?PS ?dF Af:=#[_,_,#[BQ,Vb,Q6],?GD,?HF]
 have eS:=ET WT WY (P:=l.prog) (w:=w) (base:=base) bI (λF=>e9 F T L4 S5) ?a2;have W7:=?UR KN (λF=>GR F T Vg Pk);have w9:=?UR PJ (λF=>jO F T Vg Pk);have Pq:=?U8 BJ (λF=>f8 F T Hh Fp);have Q9:=?U8 fC (λF=>AW F T Nc T8 Id);have Jw:=uu AA (λF=>Yn F T Gm Fp Po Hh) (?PM A70 (λ_ _ _ _ _ _=>rfl));have tN:=?UR Ak9 (λF=>WK F T Gj Pm Df);have y3:=?UZ pK (λF=>JO F T Df Gk);have Cj:=uv Sl (?P9 Qz Cz) ?a2;have Ky:=uv fB (λF=>aW F T Kz M9) ?a2;have W6:=uu kN (λF=>gR F T L5 C8 Bs N8) (?PM tV (λ_ _ _ _ _=>rfl));have Pj:=uv fF (?P9 AY D9) ?R;have K7:=?U8 kR (?P9 GV y3);have Na:=uu z8 (?P9 Yk tN) ?aG;have M8:=uv BI (λF=>f6 F T Cj Cz Kl) ?a2;have Kj:=uv Yv (?P9 Wv Cj) ?aG;have G7:=uv Sk (?P9 Qy Ky) ?aG;have Fj:=?U8 Nf (?P9 Me K7);have W9:=uu KQ (λF=>GU F T Km Na) ?aG;have Kk:=uv Yw (λF=>Ww F T N7 Cz M8) ?R;have R8:=?UR tZ (λF=>OB F T Fj T7);have Vf:=?U8 pG (λF=>JM F T W5 L4 Kk Kj);have Pn:=?UR bH (?P9 d6 R8);have Nb:=?UR z9 (λF=>Yl F T D9 Bs C8 Q7 R8);have Mo:=uv IC (λF=>DX F T Vf C8) ?aG;have Iw:=uv Vs (λF=>T4 F T Mo Pl) ?aG;have J8:=uv IE (λF=>dZ F T D9 Pn w9 K7 KC Vg Pk) ?a2;have Xa:=?UR KR (λF=>gW F T eS Iw G7 C8 W8);have Xb:=uu kT (λF=>gX F T S5 Xa Bs L5 W6 C8 Nb) ?aG;have ES:=ET wU wZ (P:=l.prog) (w:=w) (base:=base) BK (λF=>g6 F T Xb W7 W9 Jl) ?R;exact Ad2 B24 T Q9 ES Pj Gm J8 L6 Pq Ra Pp Po Jw
def walk{l:PySem.W.OpenLaw}{q:Program}{loose:?e5 Str}{XP:(?vX)->?G7}{YP:World->?G7}{d:DefRec}{K:Params->PySem.W.Frag}(hn:l.most=?c 63)(hdf:d.params.defaults=[])
 (hY:∀(w:World) (h:Heap),YP w h->?tS h)
 (F:∀(w:World) (mg:?vX) (fa:Addr) (h:Heap),?tS h->?HD->mg d.name=?QD fa →
   ∃fd:FuncData,(∀(s:Shared) (u:Value),BindsTo s fd #[[u],[]] [(?i5,u)])/\∀base:Heap,?tS ?d->?EL->Bv ?dF w (K w.params) mg ?d Eo 14 fa fd ?m6 (Y2 (K w.params))) :
 PySem.W.WalkO q loose XP YP l.row.toRowW d [] (λf vs=>PySem.call f vs) :=
 L2.walk_ofB (n:=63) (k:=14) (x:=?i5) (CX:=λ_=>Eo) (sp:=λw=>Y2 (K w.params)) hn ?P hdf #[rfl,?E,?E,rfl] hY F (λ_ _ a ns hl Ai3 _ hS=>#[a,ns,rfl,hS,hl,Ai3,?BR]) λ_ _ _ _ _ z=>z
universe Hb
end
mutual
#check(0,[])
structure PySem.W.Fast:Prop where(t_c3boTAaCHjR t_9vmbcWd6bzg t_9a2DG5GaJg4 t_kAun4RYFW1f t_h5my9BIKZL1 t_2B932MI8lNR t_azm9emzvcdf t_ihnS6UTmbRn t_k3BziSpxYuR t_fZm2Lrnam7J t_1CkAfmHYWcv t_cfDGCmgO2lw t_akXxrJrGeww t_fnGSXke1YrN t_iFfy9O4qZeJ t_5urZuqoQktC t_eihB5AgOxEQ t_lXIxUWDKGqb t_esXgLBgZrB5 t_22lnjsBUolp t_jhal2oK8Syg t_ksM8QIXFFR t_1odvSHMJ1ke t_lr5bEyYQFFP t_8BzCPueLqFN t_mZxLwl5HCh t_aDZqn6BSq4o t_i2Sa8d46MVZ t_gy5khdoksHq t_kW8FaNSRQCQ t_7VixSzJSzdC t_grlLon6RKSA t_628lUL8fgqc t_a1y0TgYcPkG t_43OgSaG3Ygy t_jqeoCVgIRYv t_fSeNT2vSGIw t_fd7XCZIZ2nC t_9tqj21TpUwv t_93NptYcapwm t_dXCqZcfbySl t_et4ObmpC5Bk t_67YzsmnQ3CS t_2PiZjnXF27r t_mrpKwOIjrU t_3PFq5uo2pbu t_jzQBGPgTFfl t_dLRMcyhA5MV t_5FaffQCyyYj t_2b5j4OO0UgD t_kpJzwGja4MA t_ffJagtzvWbY t_knA4tT1cCbL t_j0Ogi77XmLg t_8L1NHIXWTn1 t_l9go0bncD7b t_1sMT8EPmfM6 t_7ybqhsTl9tE t_2XJaWDyQIDQ t_9pTKoopUC7W t_ctJqoBIbdak t_cWUPeEMhN8N t_kcKxOCKxDEt t_l6M3Bc6dlNV t_6X9sEZwLwFk t_4Z35EEnRjsB t_llHsUkfbbW2 t_7vukF2H1iL9 t_6ja5Z8xMR4e t_jhtAPhtj555 t_5eShVuJvM2h t_3FSSeOrTWEO t_hWYN6YU8i2Y t_cPdrB3Qir7Y t_d3fXYLoFtel t_fLAndOX5MTo t_7FMHysgbeEj t_8dHnQ60Sfl0 t_9qMIQaEgM6b t_hIZykCrmPLa t_a0I524YvNez t_appTsg6eHdz t_liuj7mIvMLa t_kc2qpUn4ygM t_4vGlf47sw4Z t_3s5lFyakqD0 t_4JxmpshPWro t_cWFuVANbtO4 t_1b14PactWPE t_abbTCOUiWaD t_fQ4QInsEG06 t_iBpfHCG2L7R t_1kcvjfJwh67 t_8TsjDjDwrJ7 t_5zKRuLjebur t_avqfFMMM6As t_906uK9zgLHL t_de7TwysKknW t_dXkRg6EUPW1 t_59Cms5V6DKm t_eWQJZjaiE85 t_lagya8tSjuV t_jy4w0fHrJ8i t_kqJII4QaWgN t_lIfmesdcbyl t_dPlNfpgA2JW t_jriPUQOGu5f t_5BKTUz3kpeE t_28iRP6s5Iyn t_9oBhFg9F0zB t_gzo7ZTHhzMO t_4q5XvAUFRQU t_32N1RvrKuFO t_aLhpjsYepiT t_jMza4AxaQjj t_bMkY8TtIA8c t_bn43x1lRREQ t_6cSE0NVjW5y t_elaJU6Wu8a7 t_C567vh6l5M t_is3qWHUA0hW t_ewIRdkxdXj0 t_7BxglrIBHwQ t_6NKoonmYP9N t_cnxXn0ee7wp t_1OaEEOFIWZP t_kbodCvy3JyP t_eyKZGoZp6lE t_7kMUfspUPNk t_8L55vTzUSul t_eNLGIbN4ozm t_8ymc1NSKy5n t_98dBvCqg6vM t_hQvNJvKcZhY t_hzL871FQSTa t_2xcXbz8v3vM t_jrqwcA1qkdx t_3mHJCkg5BdB t_5eRrnIK6nVO t_1H4VYWHd9Uz t_8ZiP1ra6Yn1 t_dWIK5EKlEED t_gRKiUSU2ASm t_cxtHZQnkD1t t_bZR8EKgp9vr t_eRpbWjPJDBy t_8eA6D142cd6 t_7pJ1yhBz3QK t_iglsyeatxVS t_fVz1Gl1QGND t_kM4PSlTQUAU t_d5OmWf7eWIY t_ga5vwUUbfEe t_bhrCT8KMOmR t_bsjLdEB7MgY t_6Myw1HUr39 t_bB7C9Ak1NbY t_hr0AXKsZ0sR t_5S1p6gE85xT t_cJVsyCIQnel t_1zQNFq8rAU9 t_gjthmD5dTXx t_fw9FGFR8XHL t_ekkyZ7olxje t_9jhDNaOxFWy t_8Cj0LKTs8bl t_bLujygYdBcc t_aPsbA7O95hc t_fxK30YWIXEK t_fDfUUzQESaG t_kUrLTXZo9CM t_cIhsKbWi1Hd t_6gB4luOFWnT t_2jcW1j3KpU3 t_fzPBX8zBPEc t_gK3d95smtgo t_4wtsIRB5gfL t_6RGXXBoYg5c t_dKJ7b1DcEde t_5og0JKvvwkS t_kXENK0E71XV t_3kZHRFCjFTR t_67RZegWHvNj t_6B0Q4f6uvQV t_gMjDBLjHkbN t_eu1Z8F7V6YS t_58hDN3WgQgU t_8JrbW8L7SQD t_41UfjKicQ2M t_6tbHYvN5txj t_gN9ocJ9lsfm t_hRpQConyHx3 t_4w5XXOiigKi t_E96x0wbaep t_1r6ybA9ND6B t_aYc1tMy0aWA t_30xR7I7GR0d t_hi2i4AcfNUq t_f6CoYy5USZg t_7J1AZCYqr6f t_aj9LawNwEVO t_87C6CflGiyp t_kKGYKah8dQe t_4JmeKV8caxw t_hg1kxQjd4EU t_4MF7FHYxT3q t_bBekAzSTEZ6 t_ijBX9kiAk7F t_gUBQfb8lx55 t_d8EgOjG65dj t_aUIOVUUr3Ab t_fpqYeRjVWKO t_eMzEGRHo1nw t_a4VbfDPr4sK t_ef3lPM2bGcM t_jgD7o9FfKb3 t_c3p7c5pSppU t_4MiWMTTIDye t_hxvNsYLiPhm t_3XhYSGNRTGs t_46T8YeWD4wM t_g3FAiJgEcZo t_l0pzxORHKZu t_j4SAQJauAnk t_72s87Tg9z6z t_oBEh7diuhb t_ajeqTWYdEDh t_bf8QbhhriRZ t_5tBhytNr9Nv t_hipTAtL4eRo t_3CF6IinscdA t_cN9dU7E97zl t_5psybKpLcg5 t_jQzp7QBsO1w t_2FbdwsPjLoV t_7I1q3pRoaTF t_6kciPM88M3x t_94LySA2qYhi t_aRxOZJKWZR t_7zPtbcsbvly t_kB1QsLYzLL3 t_b45tLGt4b6W t_4Bfd6MFqVDw t_6evDyytQvAx t_e5aUlGThRg6 t_f6qy4Ca1cF2 t_aD93mp0k1Uc t_jVwdB3QNXFH t_6jQU6F1kspN t_lbiIuAz0qcG t_lFVGMUFHWHX t_i44XVHAPwe5 t_bftJ3L91zT3 t_i1IRzV6HQKq t_s8QB64iPm6 t_kpiaE9wD7Nf t_1qa7pALnDa2 t_93w0y2kP4RE t_cawlwUMTmCz t_jSggFlEHbyt t_8rhViNGjiiw t_9yviEXThJMf t_8SCRgbWNsor t_8SKY47M7tVc t_e70OdWxL5kb t_38evZD22bKc t_eLJnENwQChc t_9LGkfMmoxT4 t_fL4XWb9HH3X t_bkmigvnAR7a t_4dgpoAndZPs t_11dBzW5LqkG t_fVgCiVHCxUG t_8pbvaOgMHLL t_fQy3CIFHJlW t_jlsrBx9KGRM t_kuFvyEjUXPk t_313OPJ2HDMO t_ceuRnC0ByPs t_jtd5uXcyi4J t_103bCpGld0o t_eWnDfYC3RRY t_cB0K1JYZNqY t_a4Cs8OQ8kbq t_JqyKHJbtHq t_cffDafxqBWQ t_73KNqy1sskz t_gJqf9B4tv8R t_dZgMhXLRlpC t_asxrzvu6qlu t_8nVWVj3QfaY t_hM1MPmqgd4e t_fr8sv3s2tRB t_hKrrenYuZcM t_2U5VzqWYBjq t_fnGr6ZlmVJK t_8SyI2zA250p t_17vWrJS8It3 t_jtiSzoOX7HR t_lC3O1mPPCZ9 t_j8brfxJ7vun t_ftdbBLcx6Jl t_ffE0HyggEA1 t_kEqIwT2ZlUH t_aBRTk9EVwE7 t_jsovmcnJWQ4 t_3cXEyehy0XU t_iKhQntMk2UZ t_eJknW0hyCZe t_knyEzROUMQa t_3S9qhEAI3rD t_lHKtnHV9R9o t_gWHxR1s4wAf t_ayVsJnY3vZG t_393eXkuP0P9 t_9oXdoOEzZaT t_lNVpVwYC8wr t_1x1Ppad1kq7 t_lVPIlnoL2gG t_hrgM33XZI6I t_8ZZhqYk6WS2 t_ehCFccIaDXu t_buBm2uYmAio t_lOJ1JtzePrv t_1SBMOE8fV8j t_k7PAvAZBE5o t_62ayTNs89Zj t_7Epow5mdq61 t_2h4cqUi14vE t_15o6F6B1M8K t_2bLPzNEfFhW t_jrY6wLhJF0p t_jBrWWpiVf8i t_9rgXb3jmtA9 t_5AcCLSvduJg t_j9ANcnri7cE t_2kxeqQkHzbE t_ikl4MnRin8N t_9IQgqZTHB8a t_aPqveFhvJZz t_jvDHaHTLJt9 t_ajKxjOIEoc7 t_cPmz44SUqbZ t_7CC3Z5gNekV t_9MsLKxgOL4I t_90gCcLlESPJ t_9CNFKT1HqeX t_98pI5G0fRgY t_fR8fhZLOMQH t_GBfisktG4U t_3SQkOEQW9G7 t_1YDpppoonKd t_2Tnxr8TtBDb t_47Ze8K18kGP t_en9jk31dJdP t_1PZjUMMVUmS t_6jEuLT9dw6X t_jHAKWpx9zsQ t_elW3TstzpTc t_l1RUxnYtddx t_9ObCcNIanQd t_4r5r97HaGzf t_lOTkivmFFMy t_dbgDR6hK5Fp t_37uDQFdgJxr t_32TKuARdZOW t_goKcUzeFEu t_4uNuRnXOcSn t_8s6O56Llke9 t_8nO9wJylNU9 t_ca4WsxZkxFj t_cM3950nCivr t_eR1AwEk5xHH t_9r8u42tk3Jj t_4jytI0xTwiV t_5BBoXw6D7g4 t_dXG0II0AqbY t_73moWDHLb1w t_4AK7vkgDRNt t_9O7E9kMhllt t_4ivJfuHeVsG t_aLsFkB0TYGS t_idgH9EJBEYi t_3hKm3c8YR0t t_1panxnc5t2Y t_cmulAZ3cfzn t_2E5pXPIo9Uk t_4wnhlhRZlwS t_1wu6nhFuljW t_Wzc6wrZLq7 t_2j16GzuuRIJ t_tVljVlrxN1 t_gActQAsfOnq t_eclZ0Ua08EB t_fWO9jPnJjKQ t_ec1E2dlksHf t_jowm9efKwn7 t_izYVZrYyhzB t_1GlgpY471zg t_hfvQ7zShVeg t_c9ZXpwB77pQ t_itDRSyTUQX8 t_jyw8kiYImah t_eYpfumLGoEb t_kvoB2Zuujqi t_iw0cspnAqzN t_1vVW51txJEs t_av7mQtJxIMV t_8ylWS6HzDg4 t_f6Qo3Mb697p t_l33UFJwbgFZ t_8W1fDAXwkw t_ayQ2pPBpq07 t_k6bMqWqPYsU t_gBped3pslp7 t_lbE3eGd8JLO t_gGwneWIJjha t_8Gu4axOg2Q6 t_9CTuKK78iW4 t_1q1vqQPToiH:True)
end
open PySem PySem.W PyProof.Rows
set_option maxRecDepth 100000 in
set_option maxHeartbeats 0 in
theorem PySem.Challenge.cw_holebook_k37_what_is_told_of_a_round_holds : PySem.Challenge.rw_holebook_k37_what_is_told_of_a_round.Holds := by
 w_on;o_law;k_head;(case hw=>w_witness2)
 k_fill
 refine Hb.walk (l:=PySem.Challenge.rw_holebook_k37_what_is_told_of_a_round) rfl rfl (fun w h Y=>PySem.W.kIn_of Y) ?F
 case F =>
  intro w mg fa h KX G hmg
  refine' Hb.all_mk KX G hmg ..
  all_goals try delta Hb.nS Hb.nN9 Hb.kO
  all_goals try first | exact⟨_,_,by k_is,⟨⟨_,_,_,_,_,_,_,_,_,rfl,by k_is,by k_is⟩,by k_is⟩⟩ | exact⟨_,_,by k_is,by k_is,⟨⟨_,_,_,_,_,_,_,_,_,rfl,by k_is,by k_is⟩,by k_is⟩⟩ | k_is | kit_is | kts_isx | k_exc | k_qdec | kernel_rfl | decide +kernel

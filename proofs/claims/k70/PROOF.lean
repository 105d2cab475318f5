import PyProof.Rows.All
import Wide.All
import OpenK.AllK
import Wide.FinOn
import Lean
import PyProof.EqAt
import PyProof.EqKinds
import PyProof.TupleCall
import PySem.Challenge.RW_holebook_k70_a_book_by_hand
set_option linter.all false
set_option Elab.async false
set_option maxRecDepth 100000
set_option genSizeOf false
set_option genInjectivity false
set_option maxHeartbeats 0
set_option compiler.extract_closed false
noncomputable section
local macro_rules|`(tactic|omega)=>`(tactic|first|with_reducible(first|assumption|exact Nat.le_trans ‹_› (Nat.le_of_ble_eq_true rfl)|exact Nat.lt_of_lt_of_le ‹_› ‹_›|exact Nat.le_of_lt ‹_›|exact Nat.lt_of_lt_of_eq ‹_› ‹_›|exact Nat.lt_of_lt_of_eq ‹_› (Eq.symm ‹_›)|exact Nat.lt_of_le_of_lt ‹_› ‹_›|exact Nat.succ_le_of_lt ‹_›|exact Nat.le_of_not_lt ‹_›|exact Nat.sub_le _ _|exact Nat.le_of_succ_le ‹_›|exact Nat.lt_succ_of_lt ‹_›|exact Nat.le_add_right _ _)|lia)
local macro_rules|`(tactic|ac_rfl)=>`(tactic|first|exact .inl rfl|exact .inr rfl|assumption)
local macro_rules|`(command|mutual $cs* end)=>do
 unless cs[0]!.raw.isOfKind ``Lean.Parser.Command.check do Lean.Macro.throwUnsupported
 let some l:=cs[0]!.raw.find? (·.isOfKind `«term[_]»)|Lean.Macro.throwUnsupported
 let w:=Lean.Name.str `Lean.Parser.Term
 let t:=Lean.Name.str `Lean.Parser.Tactic
 let v:=Lean.Name.str `Lean.Parser.Command
 let k:=Lean.Syntax.node .none
 let b:=Lean.mkAtom
 let u(a:Array Lean.Syntax):=Lean.mkNullNode a
 let o:=Lean.mkNode ``Lean.Parser.Tactic.rcasesPat.one
 let rec p:Nat->Lean.Syntax->Lean.Syntax
  | 0,x=>x
  | n+1,x=>if x.isOfKind (w "paren") then p n x[1] else if x.isOfKind (w "anonymousCtor") then k ``Lean.Parser.Tactic.rcasesPat.tuple #[x[0],u (x[1].getArgs.map fun y=>if y.isAtom then y else k (t "rcasesPatLo") #[k (t "rcasesPatMed") #[u #[p n y]],u #[]]),x[2]] else o #[if x.isIdent then x else Lean.mkIdent `_y9]
 let d:Char->Nat:=fun c=>if c.isDigit then c.toNat-48 else c.toNat-55
 let a:Char->Nat:=fun c=>if c.isLower then c.toNat-97 else c.toNat-39
 let e:Lean.Syntax->Nat:=fun s=>match s.getId.toString.toList with
  | [x]=>a x
  | [x,y]=>52+a x*36+d y
  | [x,y,z]=>1924+(a x*36+d y)*36+d z
  | _=>1000000
 let f:Array Lean.Syntax->Lean.Syntax->Lean.Syntax:=fun m s=>s.rewriteBottomUp fun x=>
  if x.isOfKind (w "syntheticHole") then m.getD (e x[1]) x
  else if x.isOfKind (w "app")&&x[0].isOfKind (w "explicit")&&x[0][1].isOfKind (w "paren") then
   x[0][1][1].rewriteBottomUp fun y=>if y.isOfKind (w "syntheticHole")&&e y[1]<2 then x[1][e y[1]] else y
  else if x.isOfKind Lean.nullKind&&x.getArgs.any (fun y=>y.isOfKind (w "instBinder")&&y[2].isOfKind (w "forall")) then
   x.setArgs (x.getArgs.flatMap fun y=>if y.isOfKind (w "instBinder")&&y[2].isOfKind (w "forall") then y[2][1].getArgs else #[y])
  else if x.isOfKind ``Lean.Elab.Tactic.Ext.ext then
   match x.find? (·.isIdent) with
   | some i=>match m[e i]? with
    | some t=>Lean.mkNode ``Lean.Parser.Tactic.paren #[b "(",t[1],b ")"]
    | none=>x
   | none=>x
  else x
 let mut m:=l[1].getSepArgs.map fun x=>if x.isOfKind (w "inaccessible") then x[1] else x
 for _ in [0:((cs[0]!.raw.find? (·.isOfKind `num)).get!.isNatLit?).get!] do m:=m.map (f m)
 return Lean.mkNullNode ((cs.extract 1 cs.size).map fun c=>
  if c.raw.isOfKind ``Lean.Parser.Command.universe then
   let i:=c.raw[1][0]
   Lean.mkNode ``Lean.Parser.Command.end #[b "end",Lean.mkNullNode (if i.getId==`e9 then #[] else #[i,Lean.mkNullNode])]
  else
   let c:=(f m c.raw).rewriteBottomUp fun x=>(if x.isOfKind (w "basicFun") then x.setArg 0 (x[0].setArgs (x[0].getArgs.map fun y=>if y.isOfKind (w "hole") then Lean.mkIdent `_y9 else y))
    else if x.isOfKind ``Lean.Parser.Tactic.rcasesPat.ignore then o #[Lean.mkIdent `_y9]
    else if x.isOfKind (t "apply") then k (t "refine") #[b "refine",x[1]]
    else if x.isOfKind (t "refine") then k (t "apply") #[b "apply",x[1]]
    else if x.isIdent&&x.getId.toString.startsWith "t_" then Lean.mkIdent (.mkSimple s!"tw{(x.getId.toString.drop 2).foldl (fun n c=>n*62+(if c.isDigit then c.toNat-48 else if c.isLower then c.toNat-87 else c.toNat-29)) 0}")
    else if x.isOfKind `«term#[_,]» then k (w "anonymousCtor") #[b "⟨",x[1],b "⟩"]
    else if x.isOfKind `Vector.«term#v[_,]» then k `«term#[_,]» #[b "#[",x[1],b "]"]
    else if x.isOfKind (v "declaration") then
     let d:=x[1]
     if d.isOfKind (v "definition") then x.setArg 1 (k (v "theorem") #[b "theorem",d[1],k (v "declSig") #[d[2][0],d[2][1][0]],d[3]])
     else if d.isOfKind (v "abbrev")&&x[0][4].getNumArgs==0 then
      (if d[3][1].isOfKind (w "explicit") then x else x.setArg 0 (x[0].setArg 4 (u #[Lean.mkNode (v "noncomputable") #[b "noncomputable"]]))).setArg 1 (k (v "definition") #[b "def",d[1],d[2],d[3],u #[]])
     else x
    else match if x.isOfKind (t "tacticLet__") then x.find? (·.isOfKind (w "letPatDecl")) else none with
    | some d=>k (t "obtain") #[b "obtain",u #[k (t "rcasesPatMed") #[u #[p 9 d[0]]]],u #[],u #[d[3],u #[d[4]]]]
    | none=>x).setInfo .none
   c)
mutual
#check(4,[?a,?b,some,∀(K:W.Frag),a,∀(I:?D),a,wpAny,X.env,.int,.inl,.ref,(?kZ ?a1 X.w),?c o,X.xe,.lst,.(by let ?A2:=ry),List,?p V,.inr,decide,.non,.nil,s.heap.objs.size,?p ?aZ,absurd,s.heap,∀{Ae:Bi}{σ:St}{H:Hp}{s:Shared},a,?c v,?h i,St->?a6,?Y7 H s,?p Str,.cons,if_neg,∀{K:W.Frag},a,its.toArray,(Cq I q ?K),(?aH),?c u,.tup,Vals,.builtin,∀(Ae:Bi) (s:Shared) (σ:St) (H:Hp),a,.(by intro Ae s σ H Q I h),∀(hK:X.K=K:=by rfl),a,if_pos,∀{E:?gF},a,∀{us:?w},a,∀{A:Around},a,∀{pos:Pos},a,∀{a:Addr},a,?a12 b,p.isList,name,X.prog,?p ?gJ,∀{es:?eW},a,∀(xs:?q),a,∀{s:Shared},a,Hp->Prop,.type,V.int,none,outer,Reps,pure,Nat->Int,.(by decide +kernel),(by omega),base,.(by simp),eval,.none,.seq,.Call,?p D,xs[i]?=?bH,∀{u:Value},a,.Attribute,compareOp,I.kIn,?j a,∀{h:Heap},a,(?e6),?p Int,?c ?rY,qual,s.heap.get?,Value,∀(a:Addr),a,(e::es),(?f8),bootBuiltins,(i+1),?a7 ?dP,List.replicate,I.hok,.(by ext aE),I.list,xs.length,.str,.(by exact qc1 e),.bl b,?c c,Option,?N xs us,?c x,X.base,(?e5),(EP X Ae σ Q),(?sC),(?j f),∀(hc:?rA),a,∀{σ:St}{H:Hp},a,.(by simp<;>omega),∀{xs:?q},a,∀(s:Shared),a,∀(h:Heap),a,?j b,RelV,Pv i σ H,(?aS),#[_,rfl],#[t,rfl],.Name,[?aS],?bB _,2 ^ 62,?iC σ H,.BoolOp,I.bare,Str->?mK,?bU x u,binaryOp,?d7 a,ObjOk,X.mg,Same,.bool,k _ _ ?dM e,∀(Pv:?DP)(h0:Pv 0 [] τ H),a,∀{P:Program}{w:World}{K:W.Frag},a,∀(x:V)(y:V)(H:Hp)(Q:VK),a,∀(P:Program)(w:World),a,∀(ha:PA X ?b1 t),a,∀(X:Cx)(Ae:Bi),a,∀(H:Hp)(Q:VK),a,∀(s':Shared),a,∀{e:Expr},a,false,?c ?kU,?q->?qY,?iZ ?aZ,?cC H H',congrArg,Pv i ys τ H,?a12 p,args,kindOf,?aY b=?l,Rf.2,∀v,o.data≠?rY v,?p Env,"int",(?lM),ns.map,I.freeC,.(by ext bP),h.get?,true,?bU v u,(?j D),Bool,?a2J Str V,(?j it),.(by intro X hP hw hK hc i Ae s σ H E I hf st hg;subst hP hw hK),.(by exact ?QN),.(by let ?iI:=_z),∀{f:?iX},a,∀(us:?w),a,∀{fp:?a2},a,∀(vs:?q),a,∀(u:Value),a,(?rD),(?kZ prog w),I.free,"list",?a7 ?gW,(?OP),S H a xs,IsPair,?p9=?l,scope,False.elim,?c j,(?vA).any,s'.heap,?YV a xs,?c .local,?bU x v,(qc1 e),SqT K H a xs,?j p,qa3 _,?pM x=?bE,?h _,.(by intro Ae s σ H x y v u Q I rx ry h),∀{Q:?gF},a,.(by let ?bY:=ry),∀(hr:Gi k X.A),a,∀(ns:?aV),a,∀{H H':Hp},a,∀{t':Nat},a,(?n ys),I.tuple,I.cell,?b9 hq,deps ds,?Z2 v d,W.findIn,?h n,(k:Int),[z,TI,TO,i1,i2],assign,(.ListComp elt [#[tg,iter,ifs,0]] sc pos),Nat->?p6,i<=xs.length,?a2S e,Pv ?b4,?p Expr,g x σ H' λσ2 H2=>tb ?DQ σ2 H2,its',(n:Int),W i m σ H,(?n []),s₁,?p α,Value.ref,?bB x,codeAny,?p Stmt,?ZZ 1,v=?aS,(O9m),(∀σ' H',?oQ->∃m',m'<m/\W ?b4 m' σ' H'),.bl _,?a03 vs ds,?ZJ xs.length,starEach,∀(x0:A0) (x1:A1) (x2:A2) (x3:A3) (x4:A4) (x5:A5) (x6:A6),a,.(by cases ry;let ?QS:=?eH q),∀{te:TE}{D:Addr}{Q:?a6}{τ:St}{H:Hp},a,.(by cases ry;let ?QS:=?b9 q),.(by cases (show ?jC a=_ from h')),∀(mg:?c6)(base:Heap),a,.(by intro Ae s σ H xs us Q I r h),∀{K:W.Frag}{a:Addr}{xs:?q},a,.(by let ?uM:=he),.(by let ?uM:=hy),∀(n:Nat)(f:?aD),a,∀{i:Nat}{x:Str},a,.(by let ?bY:=r),∀{ns:?aV},a,∀(r:?d9),a,∀{vs:?q},a,∀(xs:LLInt),a,List.range,"zip",2 ^ 64,?eH hq,?bF Int,qc4 _ rfl,(∃m,W 0 m σ H),(?kZ P w),λ_=>none,I.tok _,i<=n,(g i j),(?Z2 x d),.(by ext hQ),?hR ?aU,qa4.mp,(n,k),xs=[?e5],?aZ->?lE,(qp0 _),?G hk,HT.sIx,Addr,(?YA he h),2 ^ 63,.(by simp at h),λ_ _=>False,pl.isList,?h j,X.stack,{ s with heap:=h' },_::_,V->?a6,Ie n f,λv s1 _z=>?_,"tuple",?N vs us,(?zS),Gl X x,"enumerate",?M ds,h'.get?,d::ds,body,backTo,?a2S o,(f i),λb hb=>?_,s1.heap.objs.size,h.IsListIter,?a2J Str Addr,s₁.heap,(vs++dvs),∀(hf:?zX\/?YP ?e1:=by ac_rfl),a,∀(x:p0) (x:p1) (x:p2) (x:p3) (x:p4) (x:p5) (x:p6),a,.(by let ?NR:=hf it ?K),∀(hdb:?RE:=by decide),a,∀(ha:?Q8)(hb:?ZP b tb),a,∀(hf:?uT),a,.(by intro Ae s σ H D I h),∀{vs:?q}{ds:?aM},a,.(by let ?bY:=rx),∀(he:?AM),a,.(by simpa using hb),.(by rw[qd2,←hl]),.(by simpa using e),I.hok.fresh,?F r t,#[its,rv,p,hz],?bZ x px,rv.get,(?i5),0<=i,qa6 _ e,I.os,?a12 D,qb1 ..,?r x,?m1 [ov] (?w9 ov m pl),I.pin,?j x,#[t,e],hlen,b≠X.env.locals,λx H' y=>?_,(f,first),Aj f n,D.nx,(?jK),#[u,hu,ru],(?US),(λz=>?GF),(ys++[y]),#[x,H1,I1,r1,q1],?h b,SameX,sc.names,?h2 b,fs.lookup,(?qA es x1 tpos),IntMulOk,WD lo n,Ite K a,(a:Addr),#[_,e,rfl],value,?N xs its,Rows,Nat->?aD,K.lookup,Array,I.ok.kind,.(by ext hO),#[its,rv,p,_],{ s with toks:=?qB },H' b,.function,λ_ _ _=>False,t σ H Q,?a2J Str Value,I.base.free,(x=?aS),?A9 apos.atName,V.ref,?S hk,X.N[i]?=?bH,Heap.SameBut,.fields,(?nO),"bool",?G h,?j ?v,.(by cases (show y=?bD from he);cases (show ?qU from ry)),.(by cases (show y=?bD from hy);cases (show v=?s2 b from ry)),∀(he:?vS:=by rfl),a,.(by cases (show y=?t from he);cases (show ?q0 from ry)),.(by cases (show y=?t from hy);cases (show v=Value.none from ry)),∀(F:Bz ?a1 X.w X.K ?cB ?bI CX k f fd ps sp),a,∀(hd:?RE:=by decide),a,∀(hd:?a2B ?bA),a,∀{prog:Program}{w:World}{A:Around},a,.(by cases (show ?sT from he)),.(by cases (show ?sT from hy)),.(by cases (show y=?bB z from he)),.(by cases (show y=?bB z from hy)),.(by by_cases hlt:?HX),.(by have e:i=xs.length:=O9m),∀(hu:X.A.units+n<cLine),a,∀(Q:?IM),a,∀(Q:VK)(x:V)(H1:Hp),a,∀{x1:Nat}{tpos:Pos},a,.(by simpa using this),∀{b:Addr}{o:Obj},a,∀{g:TG}{tc:TT},a,∀(A:Around),a,#[#[old,h1],h2],Paired,R.free,bindC,V->?cQ,vs[i]?=?A,p'.isList,?aC ?cO,(?O id),.call,IsZip,(?YL a o),Pv i zs τ H,(v:V),qa6 _ q,LT K H ?bW xs,s.heap.push,(?t7),scope.names.lookup,?a24 us,?aB X.K H vs ds,(?n xs),.free,?cC H H1,pos.line,?c ?a9,h _ ?K,model,?a12 a,qd4.mp,?h (lo+i),bindL,Ne.symm,sc.names.lookup,b ∉ ch,(?Z3 x ?b1),?bF V,K.In ?y,{ s with heap:=h',toks:=t' },r.get,?c y,?oW s'.gens,Shared->Prop,(k+1),?kO ?y7,(hr.mono hk),?a35 c,OI ?gQ,b ∉ ex,IntsAre vs ns,.(by decide),?a35 b,(0:Int),?iB+f n,?p Keyword,V->?qY,swapsWith,Q v H',Aj _ n,Heap->Prop,its.toArray.size,?yU K ?bM=true,?bU y u,X.env.kindOf,λ_ _ q=>q,holding,R.row j a e,I.kept,(by simp;omega),.Assign,uN.names.lookup,?gJ->Prop,c.nocell,"str",(?oZ tI),Ml X Ae H b,"range",(x=?j l),u=?f4 a,eqDs a b,.bl ?d8,(?YA ha h),(n+1),qb2 _,?bF ?aZ,[e,it],call_meets,items,DE ?hC H,X.base.get? b=?l,Gi k A,H a=?l,(by ext n8),(Fg ns),ys[i]?=?lC,sp vs H Q E,IsEnum,?BV ?aX ?dV ?v f cd,s.toks,?a12 ?v,(ps.zip us),∀{g:TG}{tb:TS}{D:Ends}{σ:St}{H:Hp}(Pv:?p6)(h0:?GM),a,∀(s:Shared) (Q:?gF) (E:?gF),a,∀{X:Cx}{sc:Scope}{N':?E}{cap:?p (?bF Nat)},a,∀(hb:?NX)(hd:?F8)(hx:?O0),a,∀{mg:?c6}{base:Heap},a,∀{a b:Addr}{xs ys:?q}{n:Nat},a,.(by let#[_,_,z,_]:=h';cases z),.(by simp only[qd2]<;>omega),∀(E:?gF),a,∀(R:?a15 H1 as),a,∀{Q:Unit->?lE},a,∀{m:?c6},a,.(by let#[a,vs,e,q,r]:=h),∀(lo hi:?g1),a,∀(outer:?d1),a,∀(C:Addr)(m:Str),a,∀{vs:?w},a,∀(ha:PT X a tA),a,∀(x:?x4),a,∀{xs ys:?q},a,∀(p:?aV),a,∀(ds:?aM),a,ns.getD,?cD ?d8,?b9 q',k b u q,Sum.inr,I.step,(x=?B),.(by ext tU),Sum.inl,r.inj r',(f:?iX),#[H1,I1,q1],i8 H H',s.heap.FunFrames,letOwnedTupleGo,Hp->?YC ?gJ ?q,(eqF X H d),?i i,?YV a us,?n _,.(nomatch e),Itl K a,PySem.W.instObj,s.heap.IsCell,callWith,"dict",λb hb=>(?q1).1,A.deeper,.(by simpa using hx),X.env.locals,XX K a b,?iM=?l,λd h=>Qu h,((p,w)::?yJ),(y xs q),?p L2.D,.func,xs.drop,λu s1 _z=>?_,N σ' H',I.turned,?c9=?l,(?GX),?c a,?p (?S3),AllBare,cells.lookup,#[y,H2,I2,r2,q2],xs.map,(neC b o e hx),?c (.own a),?YV a ?gY,∀x∈ns,x.natAbs<2 ^ Qa,Itt K a,Nat->?lV,Nat->?C,λσ2 H2=>tb { D with nx:=?eV,ct:=?eV,bk:=D.nx } σ2 H2,(dT h w f),?d7 b,.bl ?cO,.ad i j n,(?oH),?b3 x,.bl k,ys.length,S H b ys,dep d,(?p4),Obj.mapSeq,(i:Int),True.intro,X.env.cells.lookup,vs=[],[a,b],#[e,y],hf b hb',xs.getD,#[?eY,_,p',_],(x:V),(by simpa using hu),I.loc,I.ok.mod.kin,Ft X sc N' ?xQ s H fp,(Classical.propDecidable _),Aq t u D σ H,u=Value.none,hf b hb,s.heap.update,.Subscript,b ∉ X.fs,xs.length<=i,#[e,?_],Q ?dA H',(d:L2.D),?cB x,.Tuple,s.toks+1,(?EI pos (keywordEach [] ?g)),?l1 h,(start N vs),X.outer,λr s4 _z=>?_,(?M xs),callerA,?c (?C2),?z9/\?a1P k,.Constant,oG S NE a b,IteG S a,?c (?zP),ns.length<=n,(?h i t),(?o8),(x=.bl c),?a12 l,u=?s2 b,λb o e=>?hY,(b,o),(!eqD d e),?YC Hp VK,2 ^ m,Sem ?dB,(?gE),.(nomatch h),(?M [x,y]),?aP o f pos',?F _ t,ForInStep.yield,I7.unpinned,.(by simpa using h1),P8 ds es hl,?a35 X.calm,H l=?C7,?YL p ?r3,?i rfl,k.toNat,(tOp r ta tb),#[z,its,n,r,e],n<=1000,∀b xs,H b=?t5->?j4=?t5,env.kindOf,I.ok.above,I.list_inj,W.fnOf x ?aX (Ix st) (Go st) ?s0 ?aJ kV doc pm an Dp ct,qb9 h1,w::vs,a.length=b.length,?S hj,?eI x c e,env.cells,Vis ?yQ x,?h k,attributeBase,h1.get?,(?rB),.cell,I.ok.bs b o e,(As st),?j4=none,Value.bool,It->?a6,I1.list,{ cls:=?b5,data:=?aK ?vB },(h<=1000),I.laid,#[xs,q,?e6],"isinstance",?gI ?bA 0 lo,#[?eY,kF,p',_],?j C,?G hj,n::ns,(w<=1000),(Ke h2),?eH q',assignEach,qp8 _,λb o e n hb hx=>?_,fs.map,I.len,?Y7 H' s',(k,x)::r,ds.any λe=>?uH,I.base.keep,Wx X sc N' cap,b≠e,y=?B,Aj g n,bs[i]?,sc.kind=?j5,?n ds,(hi-lo).toNat,(xs.length:Int),(?JO),s2.heap,(HR tG),(c.cells I.ok),(?bZ x pos),?c ?qH,(qh0 _ _),VI n f,?iK B H H1,.(by have l1:=r.length;have l2:=r'.length;have l3:=rv.length;have l4:=kF.length;have e1:its.toArray.size=ds.length:=?d6),.(by have e2:its'.toArray.size=es.length:=?d6),∀(hN:X.N.Nodup)(hi:?jE)(hx:?AO),a,∀(k:∀b u,?x0),a,.(by show ?N1;omega),∀{pl:?r0}(he:?OQ)(c:?yH),a,.(by let#[o',e1]:=I.base.there b o e hx),.(by let ?T0:=he;cases ry),.(by let ?T0:=hy;cases ry),∀{kindOf:Str->?bF NameKind}{x:Str},a,.(by let#[z,its,n,r,hl,e]:=I.lstM hH),∀(R:?s3)(vs:?q)(H1:Hp),a,.(by have e:b=it:=?j1),.(by let#[b,ws,z,q',r']:=h';cases z),∀(x7:A7) (x8:A8) (x9:A9) (YM:sY),a,∀(hn:x≠"__name__":=by decide),a,.(by (ext n7)),∀(H':Hp) (i:?sN),a,∀(ps:?E)(k:Nat)(sp:Sp),a,∀(r:?kC),a,∀{f:?JJ},a,.(by rw[Ak (At q hn)];exact q),∀(sp:Sp)(dvs:?q)(E:XK),a,∀{kw:?j8},a,∀(cap:?p (?bF Nat)),a,∀(x0:A0) (x1:A1) (x2:A2),a,∀{D:Addr}{as:?a2},a,∀{n i:Nat}{f:?aD},a,∀(hk:j<=k:=by decide),a,∀(x:p0) (x:p1) (x:p2),a,∀{P:Program}{w:World},a,∀(c:?sR),a,∀(f:?iX),a,∀(R:?s3),a,∀(its:?w),a,∀(g:Int->?AP),a,∀(fp:?a2),a,∀(ha:?Q8),a,∀(hl:?ZP l tl),a,∀(r:?gX),a,∀(x:?cS),a,∀{X:Cx}{Ae:Bi},a,s3.heap.objs.size,#[_,?g2,rfl,rfl],eqD e d,s₁.heap.Ns,(n,NameKind.free),k b o (λz=>hc (by simp[z])) e,s₁.heap.get?,#[a,vs,rfl,q,r],?Y7 H ?gR,PySem.W.plainGet,?ZM e,#[n,?aH,?mJ,h0],?fF ?b1 ?g,.str_list c t ?Z O9m,∀b∈fp,?mB,(i==j),.UnaryOp,PA X es t,tn i ?y,u.keep,a<h.objs.size,(f v u),?q9=none,?YV a ?kP,#[o,ho,hd],λ_ _ z=>z.elim,.list_bool b ?Z O9m,#[us,[]],?f4 ?b2::us,?dW hq',.(by simpa using h),?h5 pos (?xN),vs.toArray,(h w:Nat),(?h5 cpos (?xN)).any,acc++its,?YV p ys,.list_int i t' ?Z O9m,.FunctionDef,{ cls:=?a7 ?mC,data:=?jG #v[?h lo t,?h hi u,?h 1 v] },#[u,r,l],id ?pV,I.write,d.name,(?Z0 ?FC ys),?cA P w H h a o,Q () s',?aZ->Sem ?aZ,D->?dB,?uR=?P2::?xN,Result->?lE,λp hp=>?_,relabel sc ?g,?iN m=none,?Z6 C,?dW hq,SqT X.K H p ys,getItem,putF f y fs,sliceBounds lo hi ?a9 n,(K w.params).In,as.map ?jC,List.foldl,λxs ys i=>?q5\/ys.length<=i,Nat.log2_lt,d0::ds,getMethod,.int_bool c t b,?o9 C ?v,I1.kept,.int_str c t z t',PySem.Within,as.length=h,{ s3 with heap:=s3.heap.push { cls:=?a7 "slice",data:=?jG #v[vl,vu,?aJ] } },pyIter,?a0J k,H p=?C7,.tuple_str z t' p O9m,k b o hc e,s.free,r.append,?bU y v,(?a7 T),λ_=>0,its.toList,?sI es ?g,.int_tuple c t p O9m,.(by simp[h]),IsPart,.str_none c t,I1.laid,∀b o u,H b=?xV->?j4=?xV,?l5 x=?aW,?p9=?L->?iM=?L,i.toNat,Rep X.K H v e,?p (?l8),Rl P w H h,(?gC hi).1,J.go i H,H1 a=?qO,Un.kept,pa.isList,?ZE (?uR),.tuple_bool b p O9m,W.codeIn K Dp ?aX=true,kk c o hc e,PySem.W.methodObj,o.slots,seqIndex_neg,-?eZ<=i,n=?d2\/n=?jI\/n=?m9\/n=?gW\/n=?dP\/n=?oC,?NV+?eK<cLine,o.cls=?dQ,its.length,.list_tuple ?Z p' O9m,?fF es ?g,base.Ns ?A3 mg,(i:Nat),H2.objs.size,Q (?mG) H',∀vs H Q E,?mV->?TZ,wpAny_Name,.same _,?c (?QO),(xs:LLInt),aD X.env.cells ?iL [],tb σ H1 Q,if c then A else B,.bool_bool c b,wpAny_standAt,∀f,Ou (?iN f) (mA f),#[o,_,ho,_],mA ?a0,.tuple_int i t' p O9m,qC _ _ e,PySem.W.emptyDict,J.stop i H,Builtin.Int.intBits,FnScope,I.ok.noex,k b ob q,V->?g1->?g1->?qY,X.s₀.heap.get? b=?l,preSum,.str_int c t i t',Cls X.K C,us.length=h,P.zip vs,(x,NameKind.free),?bF HO,(?m2).2.2,o.dict=none,p.getD,?q->?a6,X.env.scope,(hs.2 b (?a0E ?e3 (I.ok.cab x c hfn hc))).trans,h.objs.size<=a,h.Ns1 dx mA,W.keepIn,.(by rw[qd2];omega),.none_int i t,?c (?A),.none_list ?Z O9m,putF f v fs,dx≠x,Rep.inj,.list_str z t' ?Z O9m,?c ?B8,#[h1,h2],JQ P w K mg ?aG A ?aA s H,H b=?L,λus s1 #[vs,H1,I1,r,q]=>#[I1.kIn,?_],W.isFn K ?bM=true,Nm K fd ps [],#[m,hn,hl],?l1 (?T1 b z),[?B,?gP],N'.zip cap,its.toArray.size*k.toNat,#[o,e,c,d],?a35 (?wI),H a≠none,.tuple_list p ?kE O9m,.(by simp at e),typeIs_int,.str_str c t z t',?h2 ?v,c.kind,sc.names.all,.ins C dx fs,λi=>?nN i 0,Do K C f,?d4 ?a8,.int_none c t,#[_,e],i<vs.length,Kp H H1,X.fn x=true,ys.length<sizeLine,I.lset,?aI e env,qe3 (qc1 ho),#[t',rfl],mainGlobals,.bool_int c i t,Rep X.K H x d,(?j j),BindsTo,SqT K H p ys,standAt,I.ok.bsz,env.cells.lookup,qa1 hj,seqIndex_of,.int_list c t ?Z O9m,(?kO ?vI).objs.size,#[od,J,hl],λh' eb=>#[rfl,?Z8 (λb o hb e=>eb b o hb e)],Data.fields _=Data.cell v,?YC Int Int,λi=>?SU,.list_none ?Z O9m,?ZP e te,?S ?aF,XW ?yQ x,Int->V,getAttr,Or.inr,Reps.same,s'.os=s.os,.none_str z t,eqDs_refl,behindInMarks op b=false,.(by simpa using h2),H4 D=?c ?eG,#[v,H,I,r,h],.str_bool c t b,?ZJ n,?G ?aF,.bool_list c ?Z O9m,.bool_tuple c p O9m,.str_tuple c t p O9m,pb.isList,?m6 p.1,{ cls:=?b5,data:=?aK ?I n },x.2≠NameKind.cell,?gD::r,s.heap.IsTuple,.(by rw[q];simp),?ZU 1,SqL X.K H p ys,dD ?b7 e,?dT h TO c d,upd H ?v ?r3,j<xs.length,?uJ∈sc.names,.tuple_none p O9m,#[v,z],(hs.2 b (?a0E ?e3 ?rK)).trans,I.base,#[u,rfl,ru],(n,NameKind.cell),qc9 hQ,isTrue,Bs ?SQ,?a2K ds d,X.pn++Ae,envOfC,?iP i j,.Compare,.bool_str c z t,.none_tuple p O9m,.int_int c t i t',imms ds,?c ?bM,?Y7 H ?lA,?cC H1 H2,?g1->?a6,((0:Nat):Int),?c ?kT,(Z6 i),∀(hch:∀b∈ch,?SO),a,.(by apply ?r #[?SW,?eV,λys' τ' H' p'=>?MM,?i9]),.(by apply ?r #[?SW,?eV,λσ' H' p'=>?MM,?i9]),.(by apply#[λi m ys τ H=>m=xs.length-i/\?eT/\?cU,?OT,?_]),.(by rw[show putF f v (?sO)=(if k=f then(k,v)::r else(k,x)::?TE) from rfl];by_cases hk:k=f),.(by apply#[λi m σ H=>m=xs.length-i/\?eT/\?bV,?OT,?_]),∀(hst:?vS:=by rfl),a,∀(hs:?vS:=by rfl),a,∀(A:Around) (outer:?d1) (s:Shared) (H:Hp) (vs:?q) (Q:VK) (E:XK),a,∀(hs:∀x,foldedSetIterable iter ?g x=?aC x:=by intro _;rfl),a,.(by subst e;exact I1.fpOk ?aU (I1.hok.fresh ?aU)),.(by let ?S1:=?eJ;have hlen:=r'.length),∀(hl:?a00 ?e0),a,.(by simp only[eqD];by_cases hl:?GO),.(by let#[σ',H',I,q]:=h;exact#[σ',H',?JU,q]),.(by let#[sl,e1]:=?a0K ?T3 hx),.(by intro Ae s σ H x vs v us Q I rx rv h),∀(e:H a=?qO)(c:?yH),a,.(by by_cases hk:?zG),.(by rintro i m ys τ H ⟨rfl,hi,p⟩),∀(hg:?gZ)(hm:?q9=?c ?bL),a,∀(hu:?LP),a,.(by have l1:=rv.length;rw[qa2]at l1),.(by let ?S1:=?g0),.(by rintro i m σ H ⟨rfl,hi,p⟩),∀(hd:∀zs τ H,Pv n zs τ H->Q H),a,.(by let#[e,n,ne,nf,d]:=?EY),.(by exact ?Y8 hb Q),∀(hn:n=min ?bA ?pF),a,∀(σ:St)(H:Hp)(Q:?C),a,.(by rcases ?qD with e | e),.(by cases (show ?pN from h)),.(by let#[f,fd,h1,h2,h3]:=h.ex),∀(ho:Rk X (?aQ op) r),a,∀{fd:FuncData}{ps:?E},a,∀(hok:Rl ?a1 X.w H' h'),a,∀{c A B:Prop}[Decidable c],a,∀(hz:?SK),a,∀(prog:Program)(w:World),a,∀(sc:Scope)(N':?E),a,∀{mA:?c6},a,∀{z TI TO i1 i2:Addr},a,∀(hi:?OF),a,∀(i j:Int) (t u:Tok),a,∀(h:?fD),a,∀(h:SqT X.K H a xs),a,∀(hn:l.most=?c n),a,PySem.W.handedIn,?ZU 4,?cY/\?Y,(?m2).2.1,(?pH<=n),Nat->?E6,{ D with nx:=N,ct:=N,bk:=D.nx },I7.pin ?qW (qh3 _ (qh3 _ (N7 hb e))),GX K xs H Q,?s (?hX),#[m',hm,w7],.(by have:=r.un;omega),(?cO,?KJ),?YW u s',?e0/\?YV b ys,PySem.W.cellsFrom_some,W m σ H,.bl (!c),?hA it a i,{ s with heap:=?G9 },xY i σ H Q,λi=>(?sV).getD ?d8,?q->?C,λh' tk k=>#[_,H,?m3 k,?_,q],YA x y H Q,?BR e ?g whole,?QQ h1 h2,ds[j]' ?fA,WData.weight,seqIndex?,#[rfl,rfl],wpAny_comprehension_free,hb b hb',λz=>(hch _ z).2.1 rfl,backToKw,?pH<=?eK,?G5=?nR b,UnaryOp_,#[o,es,ep,ho,r],List.mem_append_left,(show False from r).elim,#[_,_,_,e,_],Builtin.List.listTooLong,∀C s₀ H₀ fp,PTs (?ZW C) ifs tc,hd σ H pp,yF K R x H1,HP X Ae σ Q s',.compLoop,#[p,v,hp,rfl,rfl,y],X.s₀.heap.FunFrames,?i4 p hp,#[qa,qb],A.handled=none,.(by rintro rfl;exact h v qb1),Bm X Ae σ' H' s',(?b7 b u e).stay,?a13 ?eK,?oE (?mX),?p WData,?a0I a sysModules,?N dvs ds,ih _ ?IE,Ml X Ae H' b,?wX (t':=s1.toks) (λb u e=>?hY) ?aU ?_,λy H4=>?AY/\?zY/\Pv ?b4 ?iH τ2 (upd H4 D (?n ?iH)),.(show n+1+j=n+(j+1) by omega),qq4 (pl:=pl) (D9 ?gK ?oP) ht,#[hz,hTI,#[u,v,hTO],h1,h2],[op,op'],h₁.get?,∃u,us=[u]/\?c7,Builtin.List.listFitsIndex,[s.heap.objs.size],builtinsNs,qa5 ?AA I.sz,?q->?YC ?q Nat,Heap.get?_update_self,λ_ e=>?o7,#[o,e,ex],(?bB x t),Int->Int,I.hok.laid,X.prog=P,#[sl,hL],?pM x=?oU,∀b∈fp,?a1T b,pre_splitW hpre,?aY l=?z3,Rep.same,s₁.gens=#v[],#[a,vs,rfl,q1,r],I.base.tups,.(by have:=r.length;ext k4),(?nR a:Key),sV K R vs H1,.(by simp[eqDs]at h),Mut (H x),(?lG).push (?wB),"type.__call__",?pR ?x1 [],s.heap.Ns ?oG m,∀σ H,Pv n σ H->?c3,?ZP ?t4 (Am4 i),.(nomatch z),sc.isGenerator=false,Az8 g x y H Q,PA X ?pO ta,∃t,u=Value.int i t,SqT K H' a xs,(?b6 k its).flatten,Pv 0 σ H,λys' τ' H' p'=>?PP,ds.length=es.length,call_list_seq,codeAny_mono,Reps.inj,#[i,j,rfl,rfl,q],λb z=>?x z (noA b),λ_ _ z=>no z,λb o e hx=>?_,r x y H Q,?Z2 v ?p8,sU K R x H1,?eI x a (ltc x a e),Data.seq,(ns:?aV),k<=xs.length,IsRangeIter,D9 ?mH ?gV,.ins C ?v [],vF.extBut,(?cO,?MD),∀y∈sc.names,y.2≠?kU,?dS/\?pG,?Y5 cd,SqL X.K H a xs,PySem.W.hasDictIn K C=true,λa e=>?_,?aY b=?L->?iM=?L,#[u,r,?_],(d8 ?t3),IrEqD K n x y H Q,#[its,rv,pl,hz],qe9.mp hb,if j=i then 1 else 0,e0.hok.fresh,subscripted,?aY p=?z3,ItB Q x H1,?l5 x=?e1\/?wZ,#[xs,ys,qa,qb,he],l.row.toRowW,?Z6 a,(i+n).toNat,PG X ?t4 ?C8,λx a e=>?_,?Y7 H' s2,i<xs.length,λi h h' st k=>st.at λo e=>k it ?K o e,YD K n neg x y H Q,#[σ,H,I,h],?z1 I hx' hy',#[sl',e2],?uL a=?c ?s5,preSum_sum,c ∉ fp,YC K x y H Q,JN ?y x dx C mA,Rl ?a1 X.w H' ?dZ,F.slot_int_rmul,?ZJ kvs.length,?c (?f4 ?v)=?c r,#[a',us,e,hq,r],#[?h ?pF,H,?g6,#[?qB,by rw[qd2,hlen]],q],λm hm=>hl m (qa9 _ hm),(?vV).names.lookup x=?aW\/(?vV).names.lookup x=?cP,b∈X.fs,hb wh Ae s1 σ H1 Q I1 q1,λc hc=>?_,Or.inl rfl,sM Q x H',?Y7 H ?R4,?dB->?a6,IrI C g x y H Q,n<=1000000,?p Key × Addr × Value,?rJ n==?aW,∃sl,?iM=?c { o with slots:=sl },?YV b (VI w ?h7),c.locals,?a35 (?f4 t==Value.none),#[v,r,rfl,h1,h2],?iC σ H1,#[i,rfl,q],#[z,H3,I3,r3,k,e,q3],.(by rw[qa2];exact hl),#[its,r,pl,hz],LI K xs H Q,t { nx:=λ_ H'=>Q ?t H',rt:=Q } ?qE H,?wC (t':=s1.toks) hk,λ_ s'=>SP X Ae D .next s',x.2=NameKind.local->?l5 x.1=?c NameKind.local,∀l,?qT->?a2V (?j l) (?M ys),cap.length=N'.length,us.toArray[j],g.typeIs,?s (x=y),P[i]?=?bH,.(by simpa using I.len),?Z6 b,?a02 h,λw hw=>h w (qa9 _ hw),xs[f.toNat]?=?c q,#[v,q,e,h1,h2],vS ?yQ X.N sc N' cap=true,?aZ->?vQ,Nat->?a6,.(by simpa using rv),Subscript_,?a35 (g==k),jI cap σ,(?mX).kindOf,#[?h ?g8,H,?g6,?bX,q],∀C s₀ H₀ fp,PE (?ZW C) elt te,I.tuple_inj,?a25 (?a2S ?t4),I.unwish,SqL X.K H a ys,I.base.tbls,Ie ?mI f,Ie n ?wQ,(?h5 cpos (?uR)).all (λx=>!x.1)&&(?EI cpos (keywordEach [] ?g)).all (λx=>x.1.isSome),Nat.min_eq_left,?aR a o hk,?SY=?nV b,P σ' H',TI K H v p,#[a,e,#[xs,hq],q],∃o,?oS,dR ?SQ&&ds.all (λe=>Dq xs e (?BS-1))&&(?s (?BS<2) || Mi xs (ds.map WM)),(n,(?AB n).getD 0)::acc,#[p,ys,a,b,c],(?wS).findIdx?,λ_ s5 _z=>?_,?a2S (?Y1 o []),r xs H Q,PI X tg iter wi,?ZV ?a0,Rep K H' v d,I.base.frzs,λj y v' e1 e2 e3=>?_,?a2S b,hd σ H p,SS R vs H1,SM Q x H1,?ZP e ta,qb9 this,?a2S (?Y1 e ?cW),tn i s7.heap,its[i]?=?A,?a2S (?Y1 o ?b1),.(by simpa using q7),Paired.mapP,PA X [a] ta,o.data=.dict es ep,Ft X sc N' C s H fp,?YV p xs,?TS ?b2 scope.names [],(n,v)::r,∃t,u=Value.float b t,λp hp=>?x hp (by simp[Ft]),Obj.data_mapFields,.(λv z=>by rw[d]at z;cases z),Addr × Obj,#[v,o,ho,hd],∃t,u=Value.str x t,subscriptTail_builtinR,HC X ?h4 tb,PT X c tc,bindArgs,IrU g x H Q,#[o,e,_],I.pins_of,#[p,u,v,hp,rfl,rfl,y1,y2],XY tb σ Q x H1,#[xs,x,hq,hx],∀d∈ds,?QC,List.length,Bm (X.wish E) Ae σ H s,(dL n f),hA b (?BC),∀b∈fp,∃o,?cY/\?d0,λh' st' sb=>?_,∀σ' H',?K3->u D σ' H',∀[?bR] [?dL],?A7 s fd #[[u],[]] [(x,u)],∀x∈sc.names,?B9,eqDs_len,YB K n x y H Q,∀x∈P,?HP,?iY a=?l,(?gC h).1,Do X.K C f,#[a,_,rfl,h,?MU],(?t7).length,(?l4 hb),#[main,?_],[s1.heap.objs.size],#[_,rfl,r],SQ K xs H Q,#[x,n,d,a,b,c,e],(?gC e).1,#[u,rfl,rx],env.scope.kind==?j5,sJ X.K C m f,Gi ?lF X.A,h.objs.size,sP tb σ Q x H1,?a2S a,∃c,?AB n=?bE,XZ K x lo hi H Q,#[xs,hq,hx],h.ok ?b7,#[v,r,rfl,_,h2],fs.length<=1000,?jF e h' h3,GY x vs H Q,#[xs.length-?b4,O9m,rfl,hlt,p'],#[?sK,?sK,?j9,?GV,?G3,?KH,?JW],SqT K H a ?gY,(i=0/\j=1)\/(i=0/\j=2)\/(i=1/\j=2),Q (?h ?g8 ?mY) ?j3->?NY,X.H₀ b=none,op≠.In,i<its.length,Ey.mpr rfl,PySem.W.plainOver K C=true,?yN/\o.data=?aK its n/\?ZJ its.size/\?N xs ?wR,?aY c=?l->?h2 c=?l,λr s'=>r=w/\?YW r s',.(by ext X6),u σ H1 Q,X.A.units+1+?eK<cLine,?x rfl z,#[_,?g2,rfl,rfl,_,rfl],hl i ys τ H hi p,∀σ H,Pv ?bA σ H->?c3,i.toNat=j,{ s with heap:=h₁,toks:=s.toks+([]:?j8).length },?Y0 (call ?kG (v::us)) ?bK,us.length=ps.length,H1 p=none,YE K R vs H1,(?yZ).map,#[hr,I4],?c (?n q),∀b ps,H b=?c (.tbl ps)->∃more,?j4=?c (.tbl (ps++more)),λi x v e1 e2 e3=>?_,?aB K H' vs ds,#[hz,hTI,#[u0,v0,hTO],h1,h2],k a _ ?dM e,.(by rw[Ak (hm b _ q λz=>z)];exact q),#[mA,O,r,_,_,_],yG K n t v σ H Q,floordiv_int,λb ob q=>?kM,∀b∈fp,?FA,?aY p.1=?c p.2/\H p.1=none/\p.1≠X.env.locals/\p.1 ∉ X.fs/\∀v,p.2.data≠?rY v,#[f0,f1,f2,f3,f4,f5],PGs X es t,?a30 ?rL,Y1 fp s5.heap,A.units+1,?N [x] us,Nm X.K fd ps ds,?a25 (f ?qQ (?h j u)),?GR I r r',S3 CX X E,hk c o n1 n3 n4 n5 e,λτ2 H2=>te τ2 H2 ?FC,compPost,?ED i ?bA,∀l,?qT->?a2V (?j l) ?eG,(mixKind prog w).is,.(λv q=>by ext X3),?n (?Q6),?cC ?P3 (T8 H' Z),hl i σ H hi pp,Aj (λi=>f i j) n,(?KO).symm,#[u,e1,e2],sJ X.K C m g,i.natAbs<?qZ,.none_none,σ[i]?=?yX,κ × Value,#[rfl,fin],λy H4=>H4 D=?c (?n zs)/\zs.length<sizeLine/\Pv ?b4 ?OU τ2 (upd H4 D (?n ?OU)),#[_,e,_],A.depth+1,?N ys ?eY,{ s with heap:=?kO ?vI,toks:=tk },I.ok.hd hc,?ZP o ta,qa9 _ hb,?b6 k xs,#[?bA,?aH,?mJ,h0],(zs++[y]),?YH M (storeName ?g x u),?yA N ps ?dV,T8 H Z a,lJ x vs H Q,Xe ?a1 X.w X.K tg J fp it tn,#[_,_,_,q],Mod X.K ?cB ?bI,(?cO,?eU),(T8 H Z),PS X st t,(σ[j]?).join,Vp f y fs,(?yZ).length,?gI ?xL 0 lo,Gi ?lF A,Calls.Name_function_global,?lZ x=?aW\/?lZ x=?cP,∃o,?dU/\?d0,sS R vs H1,(?RY)/\∀p∈?BU,p.1≠b,?x (show b∈([]:?a2) from z) ?K,TI K H v ns,#[a,e,q],deps ?mT,J.yld i H x H',z.sameBut hs (cne y c e),.(by subst z;rw[r]at mu;exact mu),?N ys its,(?gL-1) / 8,subscriptTail,#[n-?b4,O9m,rfl,hlt,p'],(us++ds).length=ps.length,∀x:Str,x≠"__name__"->mb x=?pD,fs.length<1000,pl.isList.typeIs,?bZ x pos',?ZP o to,#[m,?EM,_],e=x\/H e=?c (.own x),.(by simpa using hs),#[m0,w0],(Q ?g8 H),tn 0 ?y,sc.isCoroutine=false,?b7 p _ hk,PySem.W.makesIn K C=true,mg ?vM=?c (?j fa),Nd xs lo hi,b ∉ X.ex,?ZP a ta,us'.toArray[j],?p Key × V,?oW s.gens,EqD X H s d,λo=>o.bind λj=>?P5,I.ok.exfs,lI r' tc σ Q y z H3,h'.objs.size,H b=?l->?j4=?l,#[σ7,H7,I7,n7],Int->?FS,#[_,hen],Bm X Ae (σ.set i (?A)) H s',Vals.append,?x (show ?a35 false from hs) qe5,.frz o u,ob.slots,fitsIndex_both,∃t,u=Value.bytes b t,#[its,_,p,_],LL K x y H Q,?aY it=?l,λv hv=>(qi1.mp nd).1 (qr4 hv).1,wpAny_assign_Name,SN Q x H1,gZ x vs H Q,{ cls:=?b5,data:=?aK its'.toArray n' },#[p,ys,a,b],?a35 (! ?s (?a8 a=?a8 b)),.(by rw[hC];exact ?sJ),PySem.W.lookIn ?a0 od,{ s with heap:=h',toks:=tk },#[o,ho,hc,n,hd],Heap.get?_update_other,Walks.list (show X.A.in1.handled=none from hh) ?v p ?_ ?I,#[xs,ys,xs[i],ys[i],qa,qb,?d6,?d6],qC _ _ q,∃o',?iM=?c o',?uL b=?l,λx c e=>?_,q _ I.fresh,(x==("__debug__":Str))=false,qa9 _ (?i1),(qj8.mp hp).elim,?aM->?dB,?yK∈sc.names,?wC (t':=s1.toks) ?qV,scal x y=true,ItFld K f Q x H1,.(by simpa using hk),∃t,HC (JG Eo P w K mg ?aG N ?aX ?s0 f Dp A ?aA s H E).nox (Go st) t/\?J2,sR K xs H Q,R x y H2,∀C s₀ H₀ fp,PG (?ZW C) tg g,t D σ H,#[j,rfl],#[d,e,hd,he,hn,q],slot_list_getitem.lookup,(?gC e').1,?EC (?h x),j<1073741824,?a1X b,#[_,_,_,_,o,_,_,e,_],Bm X Ae σ H' { s with heap:=h',gens:=g',drawn:=d',toks:=t' },#[its,r',pl,hz],.set S n,Str × NameKind,(X.wish E).Ok,(vs=[x]),H dx=?p1,PS X (?m5 [?PU] e pos) (OY te ?C8),λc H1=>Q (!c) H1,λσ' H' p'=>?PP,?iZ UInt8,k b u (hb b n) q,(sb.2 b hb).trans,#[ok.mod,ok.kind,ok.glob,ok.blt,ok.above,ok.inj,ok.has,ok.cab,ok.hd,ok.frames,ok.stk,ok.exf,ok.bs,ok.bsz,ok.noex,ok.exfs,ok.funs,ok.frf],(sizeLine:Nat),?ZP ?l7 (tCB r t),?ZP ?t4 (tC v),(its.toArray.size:Int),#[I3,hn3],#[a,vs,rfl,hq,_],?ZJ ys.length,?cY->?oI,?a1P ?lF,.of_refs hab main,(b∈X.ex\/?YB b)/\?i8/\?PE,(vs=?c0),ds.length,K.In ?aG,T.keep _ _ _ yW λb hb o e=>(?DR).1,[v,ov,iv],dL w ?h7,?jF z h' h3,#[xs,xs[i],q,by simp[hlt]],(i=0/\j=1)\/(i=0/\j=2)\/(i=0/\j=3)\/(i=1/\j=2)\/(i=1/\j=3)\/(i=2/\j=3),(?nV a:Key),(?ZB ?K9 ?K9),#[b,ws,rfl,q',r'],I.stkSub,#[o,es',ep,ho,r],I.base.slot,hn.sameBut,λ_=>rfl,Bm Y [] τ' H' s',PG X tg g,CE ?aA P w H s Q u s',?ZJ ns.length,sW t u vs σ H Q,?cC H0 H,hl i σ H hi p,op≠.NotIn,putF f v r,λi j=>?h ?g8,es.toList.any,#[h1,h2,h3,h4],gX K xs H Q,?YD ?g4,sQ o i v H Q,d.params.defaults=[],λz=>(hch c z).2.2.1 x c e rfl,Gi k ?qI,?bF Expr,∀c∈?eP,p c,hd ys τ H p,#[H3,I3,q3],cellsFrom,xs.eraseIdx,λb o e=>(e0.bs b o e).1,qd0.mp hi,#[o,e,c],.Pass #[0,0,0,0],?a0I g k,vs.length=ps.length,#[p,bs,a,b,c],List.range',?ZE (?fF [] ?g),[s.heap.objs.size,p],Int->?dB,Et K x ?aX st f fd,r x xs H Q,yD K x y H Q,#[_,o,ho,_],#[?uG,?_],?a14 h ?aJ,.(by simp[putF]),PySem.W.takerIn,SO C m sp dvs E t σ Q x H1,X.A.handled=none,Mk X.K C f,?oX x=?bE,tn i ?dZ,again I7 n7,?cT ?c e,#[u,hr,h4],xZ K f D σ y x H2,I.ok.inj,∀name,?R3=?c (?y4),λj a e=>?_,.(by have:=r.dp;omega),I.ok.frf,∃u,?h2 e=?L,∀b∈fp,?s1,?a1V ?s0,b≠it->?SL,lo+?C6*1,∀(hs:∀i x y zs τ H p,?aN->?mU->?kK->?cV->g ?bJ τ (?rC) (?Z0 ?OK zs)),a,∀(hs:∀i x ys τ H p,?aN->?cU->?a32 τ ?vN),a,∀(hs:?a2U ?vN),a,∀(hs:∀i x y σ H p,?aN->?mU->?bV->?cV->g ?bJ σ (?rC) ?p7) (hd:?GD),a,∀(hs:∀i x σ H p,?aN->?bV->?a32 σ ?p7) (hd:?N5),a,.(by apply ?FE;let#[x,H1,I1,rx,a,dx,fs,ex,ea,l,q]:=_z;subst ex;obtain rfl:?mE:=rx;apply So I1 ea c hm l ?_),∀(hg:?RQ) (ht:?ER) (he:?JR),a,∀(hs:?a2U ?O2),a,.(by have I1:?uN:=?Z8 (λb o hb e=>?SC e);let ?zF:=id st'),∀(hs:∀i x σ H,?aN->?bV->g x σ H ?p7) (hd:?N5),a,.(by have I3:?sN:=I2.call' hos hun hok hbare (Bm.fpCh f2);have f3:Ml X Ae H' C:=I2.fpOk hC hHC;let#[_,k1,_,k3,k4,k5]:=f3),.(by let#[j,h1,h2,h3,h4,h5]:=LF he;let#[w,ew,rw']:=?lB h2;have hl:=r.length;have hn:=cX;have fin:?YW w s:=#[z,H,I,rw',q]),.(by first | rfl | simp[Around.under,Code.weight,Code.isCreation,Code.isGuard,Code.isCaller,Code.frames,Code.isFrame,guardIds]),.(by have I1:?IL:=?m3 (λb o e=>k b o (by simp;exact qe3 ?e3) (?hY))),∀(hs:?fF ?pO ?g=[?H7,?DW]:=by rfl)(hs2:?fF [b] ?g=[?DW]:=by rfl),a,.(by intro value slice Ae s σ H x y v u Q I rx ry h hs;let#[p,xs,i,z,rfl,rfl,hq,he,q]:=h;cases rx;let ?bY:=ry),.(by rw[e]at e';cases e';rw[d]at d';injection d' with d1 _;have:its=its':=by simpa using ?cT Array.toList d1),∀(pa:PlainAttrs T)(slot:Slot T ?a0 id)(hty:typeOf ?kG=?aC (?a7 "method_descriptor"))(hm:MtR X id r)(ho:?PV),a,∀(mu:?G8)(he:?PX)(k:∀b u,?sS->?x0)(heo:?UR),a,∀{x qual:Str}{st:Stmt}{f:Addr}{fd:FuncData}{N ps:?E}{k:Nat}{sp:Sp}(F:?U5)(S:?yA N ps ?s0),a,.(by let ?BO:=Tc r;cases ru;let ?HI:=?eJ;have hh:?UE:=?OP),.(by simp only[sliceBounds,HT.sIx,Option.getD_none,show(1:Int) > 0 by decide,if_true];by_cases h:i<0),∀{q:Program}{loose:?E}{XP:(?c6)->?lV}{YP:World->?lV}{d:DefRec},a,.(by have e2:?a0I op CmpOp.NotIn:=?a05 h2),.(by let#[o,e,d]:=T.obj _ _ yW b hb;exact(?DR).2.1),.(by have wV:∀c o,H c=?l->?I5:=λc o e hm=>by rw[(hf c hm).1]at e;cases e),.(by let#[σ3,H3,I3,n3]:=q3;let#[m',hm,w3]:=hN σ3 H3 n3;exact#[m',hm,σ3,H3,I3,w3]),.(by have e1:?a0I op CmpOp.In:=?a05 h),.(by rw[qk0 (?l4 hj)]at e2;let#[u',r',q]:=hl j y v' e1 e2 e3;apply#[u',r',?_]),.(by let#[x,H5,I5,r5,y5,yW,fr5]:=_z;have I5':=I5.pinned (HR fr5) (T.obj _ _ yW)),.(by let ?LH:=hg;let ?hT:=?eJ;let ?iE:=?hV hx),.(by let#[o',es',XR,ho',r']:=hm;rw[ho]at ho';cases ho';exact#[_,es',XR,hL,r']),∀(h:∀{N:?C},(∀σ' H',?K3->?oQ)->t { D with nx:=N } σ H),a,.(by apply#[λi m σ H=>m=n-i/\?g7/\?bV,?uQ,?_]),∀{to:TE}{t:TA}{name:Str}{apos cpos:Pos}{T id:String}{r:?kC},a,.(by intro Ae s σ H R I h;apply D9 (?YA hl h) ?gV),.(by subst e;let ?zF:=st;exact#[o,e,?L4]),.(by have hu':?N1:=by simp only[dep]at hn;omega),.(by rw[Qk hl];have z:?a0I ds.length es.length:=by simpa using hl),∀(X:?l9)(I:?I7)(hg:?uO K C ?a0=true),a,.(by have hu':?xJ:=by simp only[dep]at hu;omega),∀(hs:?a0G e ?PU:=by rfl),a,∀(hbase:?rV o ?a0 ?g (?h6)=?h6:=by rfl),a,.(by apply#[#[o,e,ex.1],λa e2=>?_];cases e2;exact#[o,e,ex.2.1]),.(by let#[i,j,rfl,q]:=h;let#[u,w',rfl,?bY,?A2]:=X0 r),.(by have e:=r.length;simp only[Array.length_toList]at e;omega),.(by subst hj;rw[hi]at e1;cases e1;rw[ql6 hiσ]at e2;cases e2),∀(hl:∀i zs τ H,?g7->?kK->?DY),a,.(by have hf:H1 ?h9=none:=I1.hok.fresh ?aU),.(by let#[_,_,_,_,o,_,_,e,ex,_]:=?Q3;exact ?FQ),.(by let#[ia,ra,pa,_]:=?b9 GC;let#[ib,rb,pb,_]:=?b9 MT),∀{CL CT:Addr}{H H':Hp}{Z:?m7}{p L R dn:Addr}{h w B:Nat},a,∀(hcap:?JI)(hi:?KE),a,.(by cases y<;>exact ?QN),.(by let ?pP:=y;subst e;exact hs i x ys τ _ ?oL p),.(by let#[p,ys,rfl,hq,q]:=h;let ?M7:=Tc r;cases rx),.(by rcases Dh hv with⟨j,u,rfl,rfl⟩|⟨y,u,rfl,rfl⟩),∀(hi:?jE:=by rfl)(hx:?AO:=by ac_rfl),a,.(by let(?a1R lk hcd):=F.ex),∀(hl:?a00 ?e4),a,∀{ta:TA}{p pos:Pos}(hg:Gl X ?mC)(hm:?cB ?mC=none),a,∀{S:?o2}{NE:?FN},a,.(by let ?pP:=y;subst e;exact hs i x σ _ ?oL p),∀{x:Str}{ps:?E}{j k:Nat}{sp:Sp}{p pos:Pos}{e:Expr},a,.(by let#[it,fp,tn,J,H2,e,I2,T,st2,f2,hW]:=h2;subst e),.(by rcases Dh hb with⟨j,u,rfl,e⟩|⟨y,u,rfl,e⟩),.(by subst e;exact ?i #[?s8,?TQ]),∀(hs:?fF [a] ?g=[?H7]:=by rfl),a,.(by exact#[f.2.2.2.1,f.2.1,f.2.2.2.2.1,f.2.2.2.2.2]),.(by let ?MG:=hg;let ?hT:=?eJ),∀(hg:?gZ)(hm:?v1)(hv:?pD=?L),a,∀(hl:?ZL ?eT ?e0),a,∀(x:p7) (x:p8) (x:p9) (x:wU) (x:p11) (x:p12) (x:p13),a,∀{g':?iZ GenState}{t':Nat}{d':Drawn}{ch:?a2},a,.(by have e:b=s1.heap.objs.size:=?j1),.(by subst e;exact ?i #[?s8,?KK]),∀(len:?xS),a,∀{l:?oV}{acc:?hB},a,∀{pl:?r0}{Q:Value × ?w->?lE},a,.(by cases (show ?H0 _ _=Data.cell v from q)),.(by exact qa9 _ (ih (λy hy=>hn y (qa9 _ hy)) h)),.(by have hx':=hx;let ?uM:=hx;cases rx),.(by rw[Ak (Fh e h (by intro z;cases z))];exact e),∀(ha:n<=xs.length)(hb:n<=ys.length)(he:NE xs ys n),a,∀(hcd:(x==("__classdict__":Str))=false:=by decide),a,∀(k:∀b u,?HE),a,.(by have hk':k=NameKind.free:=?RM),∀(hp:PassesOwn ?k X.A ?g ?m),a,∀(hline:?a35 (apos.endLine==cpos.line):=by rfl),a,∀(h:?a1E Ka),a,∀(hn:(?wS).length=n:=by rfl),a,∀(r:?yD),a,∀{n:Nat}{f g:?aD}(h:∀i,i<n->f i=g i),a,∀{qual:Str}{scope:Scope}{f:Addr}{cd:Value},a,∀(σ':St) (H':Hp) (i:?F2),a,∀{h':Heap}{Y:?gT}{T:?lV},a,∀{j k:Nat}{C:Addr}{ps:?E}{sp:Sp},a,∀(Pv:?p6)(h0:?GM),a,∀{items:?cR}(x:Qh h a ?mN),a,∀(hb:?FX),a,∀(hd:?a2B n),a,∀{cells:?hB}{x:Str},a,∀{tg elt iter:Expr}{ifs:?eW},a,∀(ha:?OQ)(hv:?ZP ?iU tv),a,∀(hh:?HC),a,∀{X:Cx}{a b c:Expr}{ta tb tc:TE},a,∀(D:ZipApart z TI TO i1 i2 a b),a,∀{X:Cx}{CX:sX}{k:Nat}{f C:Addr},a,∀(hg:?gZ)(hm:?q9=?L),a,∀(hm:?AW),a,∀{x qual:Str}{st:Stmt}{f:Addr},a,@((?a).go i H/\∃N:?C,?fB/\∀x H',(?b).yld i H x H'->?eX),@(?f ?k X.A ?a ?b ?m s),@(?aL (?aP ?a m apos) ?b [] pos),@(go (?a) rfl),@(Qf ?a g ?b te D Q τ H),@([?h0,?fY,"dict_itemiterator","dict_reverseitemiterator","odict_iterator","itertools.zip_longest","itertools.pairwise"].contains ?a),@(JG CX P w K mg ?aG N ?aX ?dV f ?a A ?aA s H E),@(λσ H Q=>?a σ H λx H1=>?b),@(Bm X Ae σ ?a ?b),@(?a Ae s1 σ H1 ?b I1 q1),@(D9 (hi Ae s σ H _ I ?a) λv s1 h1=>D9 h1 λitv s2 h2=>?_),@(?a Ae s σ H _ I ?b),@(X.s₀.heap.objs.size<=?a),@(?a->?b->Prop),@(?f6 ?a ?qI (?kH (?j fa) #[?c0,[]]) (λr s'=>r=.ok (.ret ?jH)/\OldK ?hC ?dZ/\s'.os=s₁.os/\?lD) ?f2),@(?a (D9 (ha pos Ae s σ H _ I h) λus s1 #[vs,H1,I1,r1,q1]=>hc Ae s1 σ H1 vs us Q I1 r1 q1) he hpl),@((sc.names.map λ ?gD=>if (k==?kU&&uN.kind==?j5&&?m6 n==?aW) then ?BP else ?gD).lookup p.1=?a),@(?a (D9 (h pos Ae s σ H _ I hq) λus s1 #[xs,H1,I1,r,z,q]=>#[by rw[←r.length];exact z,?_])),@(?f ?a A ?b Q E s),@(E4 X (?O "sum") (λxs H Q=>∃(p:Addr) (ns:?aV),?gE/\SqL ?a H p ?gY/\Q (?h ns.sum) H)),@(sp (?i5::?hD) (upd (upd ?a dx (.own x)) x (.ins C dx [])) (λv H2=>v=?t/\Q ?hW H2) E),@(Q (.bl ?a) H),@(upd H ?a ?b),@(Ae9 ha hb I h λv u s2 x y H2 I2 rx ry q=>ho Ae s2 σ H2 x y v ?a Q I2 rx ry q),@((?a).stop i H/\?c3),@(λσ H R=>ta σ H λvs H1=>?a),@(X.env.scope.names.lookup x=?a),@(?s ((e::es).length+([]:?lQ).length+(if ([]:?lQ).isEmpty then 0 else ?a)<30)),@(qo9 ?a ?aR ?b k ?iG fin),@(by subst hK;exact ?a ?b),@(?a λ_ _ _ _ _ _ _ q=>?b q),@(show ?a b=_ from h'),@(SqL K H ?a ?b),@(EP X Ae σ Q ?a ?b),@(qs4 (h₀:=X.base) ?pW ?a (D9 (ha pos Ae s σ H _ I h) ?z7) he hpl),@(cD I (A:=A.in1) (by show ?xJ;omega) r r' rv kF (eqDs_ok ?a ds) ?oJ),@(?a (?d4 WData.int)),@(λτ2 H2=>tc τ2 H2 λb H3=>if ?lN then te τ2 H3 ?a else Pv ?b4 ?b τ2 H3),@(∀{binds:?j8}[?nC],(∀v,(x,v) ∉ binds)->?a ?cX binds m x=m x),@(Rep K H ?a ?b),@(?aL (?bZ ?a p) ?b [] pos),@(λx y H Q=>?a),@(show ?a from r),@(s.heap.objs.size<=?a),@(?w5 (λx1 x2=>x1++x2) #v[] (?b6 ?a ?I)=(?b6 ?b its).flatten.toArray),@(?oR (t':=s.toks) ?a f0 f1 f3 f4 f5),@(?GP p ?a ho hc hd (λh' c' kp e=>fin its r' hz h' c' kp e) ?mS),@(cD I (A:=X.A.in1) (by ext tD) r r' rv kF (eqDs_ok ?a ds) ?oJ),@(λ_ _ _ z=>by let ?a:=z;exact ?b),@(PE X (?qL ?a j pos) (tC ?b)),@(?x (qb7 ?a ?b) ?gG),@(?oB pos f first (?h5 pos ?a) ?qC),@(?eM ?a ?bL "__setattr__"=?c (?c (?O "object.__setattr__"))),@(?a ?o3 ?b (RJ I (A:=X.A.in1) (by ext tD) hx rx r rv) (fin r rv)),@(λ_ _ _ H _ I h=>?a ?b),@(Rk X ?a (YZ λi j=>.bl ?b)),@(?a<=sizeLine),@(?a Pv h0 hl (λi x ys τ H e p=>hs i x ys τ H e p) hd),@(∀i σ H,?a->?bV->?b),@(G0 ?t3 (λz=>by simp at z) ?a),@(W.fnOf ?a0 ?aX params ?h4 ?dV dV kV doc pm an Dp ?a),@(?a q loose XP YP ?HR d [] (λf vs=>PySem.call f vs)),@(PE X ?a ?b),@(?c { cls:=?aJ,data:=?jG ?a }),@(#[u,rfl,KU (s:=?gR) e c d ?d3 #[x,H,I1,ru,?a,st',?oD]]),@(?a (Cq I q (?cT not ?b))),@(λb o _ _ hc e _=>?a),@(s1.heap.objs.size+?a),@(?eM K ?bL ?a),@(Ft X sc N' ?a s₀ H₀ fp),@(E4 X (?O ?a) (λxs H Q=>∃i j,xs=?zC/\Q (?h ?b) H)),@(?hV (i:=i) (x:=?a (?b[i]' ?fA)) (by rw[qb4,hb];rfl)),@(s.heap.objs.size+?a),@(∀i ys τ H,?eT->?cU->?a),@(λ_ _ _ _ _ st h=>?a st h),@(?dT ?a TI (?j i1) (?j i2)),@(?aB K H ?a ?b),@(λAe s σ H Q I hw=>?a (h Ae s σ H Q I hw)),@(by cases op<;>first | rfl | exact ?x rfl ?a),@(λy H4=>?AY/\?zY/\N ?iH ?a (upd H4 D (?n ?iH))),@(by rw[I.ok.glob];exact I.mod.glob.keeps ?a),@(?f _ _ ?a _ _ s),@(?a c o (I.cne x c e) hc nch ho (?d5 x c e)),@(PS X (?m5 [?r4] ?iU pos) (Ao1 ?a ta tv f)),@(NP X Ae ?a s'),@(?c { cls:=?dQ,data:=?aK #v[?h ?a ?mY,u] }),@(rI ?a λi j=>?h ?b),@(qe3 (qb7 ?a ?b)),@(Un fs ex H ?a h ?b),@(?lS ?a (?c (?b)) ?kW ?g=?kF),@(?b3 ?a=?c (?a7 ?b)),@((?a==?b)=false),@(?a==NameKind.free),@(?a b o e n hb ?b),@(?a ?Z ?kE (by simpa[e1,e2]using hl) O9m),@(?a (NE:=?w6) O9m O9m O9m Pv h0 hl hs hd),@(∀i ys τ H,i<n->?cU->g (?l2) τ H ?a),@(λi H=>∃xs x,?a/\?aN),@(?d7 ?a=?l/\?d0),@(#[?h9,?M2,_,_,H1,rfl,?RJ,?a a _,?uG,?h8,q]),@(?a (i:=i) (qi1.mp nd).2 (?r8) (?AX) hk),@(∀[?bQ][?U] (n:Nat),?bG->?N (?a n) (?b n)),@(λb ps q=>#[#v[],by rw[Ak ?a,q];simp]),@(ho Ae s2 σ H2 x y v u ?a I2 r1 r2 q2),@(PI X tg l (?a ?b tl)),@(?a _ _ (wV _ _ ?b) q),@(λσ H Q=>t σ H λxs H1=>?a Q xs H1),@(λ_ s2=>YP X Ae σ r Y (T ?t1) ?a s2),@(qa7 (?a (qa7 ?b))),@(Xe P w K tg ?a [it] it ?b),@(PW X (?c4 .And ?a pos) ?b),@(H ?a=none),@(A.units+?a<cLine),@(?kI ?a z TI TO ?b),@(?iW H ?a D ?b w f),@(?c (?n (VI w (f ?a)))),@(?b3 ?a=?c (?O ?b)),@((?a (?sA)).take (?gI ?bA ?bA hi-?sA)),@(λi H=>∃xs,?a/\?q5),@(Rk X (?aQ .NotEq) ?a),@(PW X (?c4 .Or ?a pos) ?b),@(?r #[?a,?eV,?b,?i9]),@(#[?j ?h9,upd H1 ?h9 ?a,?FB,rfl,q _ hf]),@(?a ?a1 X.w X.K ?cB ?bI C m ps j sp),@(λ_ H Q=>Q ?a H),@(?c { cls:=?b5,data:=?aK #v[] ?a }),@((∃c d,?BG)/\?hA i1 a ?a/\?hA i2 b ?b),@((?lM:∀j,j<?a->∀i,i<j->?b) j hj i h),@(((∃xs,SqL K H1 a xs))->(R ?a H1)->?b),@(show ?a a ?I from p),@(Rk X (?aQ .NotIn) (Ap3 ?a n ?d8)),@(RcAt A s ?bW (?bT) (eqD (?a) (?b es))),@(PG X (?qA es k pos) (Av7 ?a n t)),@(Nat.lt_succ_self ?a),@(Bz P w K mg ?aG Eo ?a f fd ps sp),@(#[x,H1,I1,rx,a,C,dx,fs,?a,ex,ea,c,?b,l,q]),@(#[oc,od,kV,doc,pm,an,Dp,ct,osl,rfl,?a,?b]),@(?a=s.heap.objs.size),@(?a<s.heap.objs.size),@(λi H x H'=>H'=H/\∀xs,?a->?aN),@(Gi k (?oE (?BV ?aX ?a ?v f Dp))),@(?mW ?a e it ?b old),@(∀x c,?e7->c≠?a),@(λxs H Q=>?a),@(qu3 (L8 ?a hg hm hv ?_ hn hdb)),@(by rw[hD];exact ?a),@(Xr ?a hg hm ?_ hdb),@(Un (?lJ) ?a H H' ?y ?b),@(Rk X (?c8 .Add) ?a),@(A.under (?O ?GA #[?sC::?a,kw])),@(?f ?k X.A ?a Q E s),@((aD cells l acc).lookup ?a=?bE),@((DE h H).get? b=?a),@((?pR (?yO ?a 0).toNat []).getD ?b 0),@(#[z,y,?a,r,ob,es,ep,?b,c]),@(#[(hs.2 p.1 ?a).trans e,n,ne,nf,d]),@(∀ys τ H,Pv ?a ys τ H->Q H),@(∀p,?NA->Q ?bJ (upd H1 p ?a)),@(∀[?bQ][?U] (i:Nat),?bG->?N ?a ?b),@(λacc C=>?O3 ?k X.A ?m ?a ?b acc C),@(#[.bl ?a,H,?b,rfl,q]),@(λσ H R=>tl σ H λx H1=>?a),@(show x=?a from hx),@(Rk X (?aQ .Eq) ?a),@(?p (?a × ?b)),@(?a[i]?=?c ?b),@(?a ?cX ?oK m ?b=_),@(?a ?a1 X.w X.K ?cB ?bI ?b ps j sp),@(St->?YC Hp (?a)),@((∀p,?cV->Q ?bJ (?YL p ?a))->?b),@(∀[?P] (D:Ends),?D->?RR->?Y0 (?a st ?g) (SP X Ae D)),@(?iY f=?c #[oc,od,?oN ?a,osl]),@(?D->?j7->?Y0 ?a (?b X Ae σ Q)),@(?aI ?a ?g),@(∀d e,?g9->(?Z2 y e)->?DO->(?YK ?a)->?b),@(∀i x ys τ H,?aN->?cU->g x τ H ?a),@(Q ?a (?YL l ?b)),@(PE X (?Y1 o []) (JW C m sp ?a ?b ta tS)),@(PE X (?Y1 o ?b1) (JW C m sp ?a ?b ta t)),@(E4 X (?O ?a) ?b),@((?YN ?a)\/?b),@(λys hy=>by rw[?a hy hq];exact hx),@(λb u q n _=>by rw[Ak ?a];exact n),@(?cV->g ?bJ ?a (?YL p (?M [?B,x])) ?b),@(?aL (?aP ?a ?a0 apos) ?b1 [] cpos),@(?aC (aD ?rS ?a ?b)),@(?a=true),@(λb o _ hb _ e n=>?a0K ?a ?K),@(by subst hK;exact(?a).imp ?SZ),@(Rk X (?c8 .FloorDiv) (?a0D ?a ?b)),@(∀p ys,?r1->((?vF\/?A8))->?a->?b),@(?c (?eQ (?hU) ?a)),@((xs.length<sizeLine)->(?a2V ?t (?n ?a))->?b)])
def O9m{p:Prop}(h:p:=by omega):p:=h
abbrev qa0:=@List.getD_eq_getElem?_getD
abbrev qa1:=@List.getElem?_eq_getElem
abbrev qa2:=@List.length_map
abbrev qa3:=@Nat.le_refl
abbrev qa4:=@List.getElem?_eq_some_iff
abbrev qa5:=@Nat.le_trans
abbrev qa6:=@PySem.Heap.get?_push_of_some
abbrev qa7:=@PySem.wpAny_bind
abbrev qa8:=@List.length_append
abbrev qa9:=@List.mem_cons_of_mem
abbrev qb0:=@List.map_append
abbrev qb1:=@List.mem_cons_self
abbrev qb2:=@Nat.zero_le
abbrev qb3:=@List.mem_of_getElem?
abbrev qb4:=@List.getElem?_map
abbrev qb5:=@List.getElem?_append_right
abbrev qb6:=@Int.natAbs_mul
abbrev qb7:=@Nat.lt_of_lt_of_le
abbrev qb8:=@List.getElem?_append_left
abbrev qb9:=@Option.some.inj
abbrev qc0:=@Nat.mul_le_mul_right
abbrev qc1:=@PySem.Heap.lt_size
abbrev qc2:=@Nat.lt_of_le_of_lt
abbrev qc3:=@Bool.and_eq_true
abbrev qc4:=@PySem.Heap.get?_push_size
abbrev qc5:=@List.length_replicate
abbrev qc6:=@Int.natAbs_neg
abbrev qc7:=@Int.mul_zero
abbrev qc8:=@List.mem_map
abbrev qc9:=@PySem.wpAny_pure
abbrev qd0:=@List.mem_range
abbrev qd1:=@PySem.PassesOwn.never
abbrev qd2:=@List.size_toArray
abbrev qd3:=@List.map_cons
abbrev qd4:=@List.mem_cons
abbrev qd5:=@of_decide_eq_true
abbrev qd6:=@Int.toNat_natCast
abbrev qd7:=@Int.one_mul
abbrev qd8:=@List.all_eq_true
abbrev qd9:=@List.length_range
abbrev qe0:=@Int.mul_assoc
abbrev qe1:=@decide_eq_true
abbrev qe2:=@List.length_take
abbrev qe3:=@Nat.ne_of_lt
abbrev qe4:=@List.length_cons
abbrev qe5:=@Bool.false_ne_true
abbrev qe6:=@Nat.le_of_lt
abbrev qe7:=@List.take_length
abbrev qe8:=@Nat.pow_add
abbrev qe9:=@List.mem_singleton
abbrev qf0:=@List.getElem_mem
abbrev qf1:=@Int.mul_comm
abbrev qf2:=@decide_eq_false
abbrev qf3:=@Nat.mul_le_mul_left
abbrev qf4:=@Int.natAbs_add_le
abbrev qf5:=@Nat.mul_le_mul
abbrev qf6:=@Nat.pow_le_pow_right
abbrev qf7:=@List.getElem?_of_mem
abbrev qf8:=@List.take_succ
abbrev qf9:=@Nat.one_mul
abbrev qg0:=@Nat.add_mul
abbrev qg1:=@List.getElem?_eq_none
abbrev qg2:=@Int.zero_mul
abbrev qg3:=@List.filter_append
abbrev qg4:=@Nat.lt_or_ge
abbrev qg5:=@PySem.F.plainAttrs_list
abbrev qg6:=@List.range_succ
abbrev qg7:=@Int.natAbs_ediv_le_natAbs
abbrev qg8:=@Decidable.byContradiction
abbrev qg9:=@Option.map_eq_some_iff
abbrev qh0:=@Nat.le_add_right
abbrev qh1:=@PyProof.Rows.callWith_type1
abbrev qh2:=@Nat.sub_self
abbrev qh3:=@List.mem_append_right
abbrev qh4:=@List.length_filter_le
abbrev qh5:=@Int.fdiv_eq_ediv_of_nonneg
abbrev qh6:=@PySem.boot_len
abbrev qh7:=@Nat.le_of_not_lt
abbrev qh8:=@List.append_assoc
abbrev qh9:=@Nat.pow_succ
abbrev qi0:=@Nat.pow_lt_pow_right
abbrev qi1:=@List.nodup_cons
abbrev qi2:=@List.length_set
abbrev qi3:=@Nat.le_mul_of_pos_right
abbrev qi4:=@PySem.Heap.size_push
abbrev qi5:=@List.replicate_succ'
abbrev qi6:=@List.pairwise_cons
abbrev qi7:=@List.getElem?_take
abbrev qi8:=@Nat.le_antisymm
abbrev qi9:=@PySem.wpAny_field
abbrev qj0:=@Nat.succ_le_succ
abbrev qj1:=@Int.mul_le_mul_of_nonneg_left
abbrev qj2:=@PySem.wpAny_setField_rec
abbrev qj3:=@List.getElem_of_mem
abbrev qj4:=@List.getElem?_range
abbrev qj5:=@Int.mul_ediv_cancel_left
abbrev qj6:=@PySem.W.mg_none_of
abbrev qj7:=@List.mem_replicate
abbrev qj8:=@List.mem_append
abbrev qj9:=@Int.eq_ofNat_of_zero_le
abbrev qk0:=@List.getElem?_set_ne
abbrev qk1:=@Nat.lt_of_not_le
abbrev qk2:=@List.length_eraseIdx_of_lt
abbrev qk3:=@List.replicate_succ
abbrev qk4:=@List.mem_map_of_mem
abbrev qk5:=@Int.mul_one
abbrev qk6:=@Nat.le_of_ble_eq_true
abbrev qk7:=@List.find?_cons
abbrev qk8:=@Int.zero_add
abbrev qk9:=@Int.mul_le_mul_of_nonneg_right
abbrev ql0:=@List.filter_cons
abbrev ql1:=@List.getElem?_replicate
abbrev ql2:=@Int.mul_nonneg
abbrev ql3:=@Int.add_zero
abbrev ql4:=@beq_eq_false_iff_ne
abbrev ql5:=@List.take_of_length_le
abbrev ql6:=@List.getElem?_set_self
abbrev ql7:=@PySem.wpAny_truthy_bool
abbrev ql8:=@List.length_drop
abbrev ql9:=@List.any_eq_true
abbrev qm0:=@Nat.one_le_two_pow
abbrev qm1:=@List.map_map
abbrev qm2:=@Int.le_of_dvd
abbrev qm3:=@PySem.F.type_list_append
abbrev qm4:=@PySem.F.slot_list_append
abbrev qm5:=@Nat.lt_trichotomy
abbrev qm6:=@List.mem_filter
abbrev qm7:=@List.foldl_append
abbrev qm8:=@List.flatten_cons
abbrev qm9:=@Nat.le_of_eq
abbrev qn0:=@Nat.add_sub_cancel_left
abbrev qn1:=@Nat.le_mul_of_pos_left
abbrev qn2:=@PySem.wpAny_call_entry
abbrev qn3:=@Nat.ne_of_gt
abbrev qn4:=@List.nil_append
abbrev qn5:=@List.length_singleton
abbrev qn6:=@Int.mul_eq_zero
abbrev qn7:=@Bool.eq_iff_iff
abbrev qn8:=@PySem.wpAny_seqItems
abbrev qn9:=@PySem.wpAny_mono
abbrev qo0:=@PySem.wpAny_pyIter_tuple
abbrev qo1:=@PySem.wpAny_passesOwn
abbrev qo2:=@List.mem_or_eq_of_mem_set
abbrev qo3:=@Int.natAbs_lt_natAbs_of_nonneg_of_lt
abbrev qo4:=@Classical.byContradiction
abbrev qo5:=@PySem.mem_of_lookup
abbrev qo6:=@Int.neg_neg
abbrev qo7:=@Int.neg_mul
abbrev qo8:=@PySem.F.slot_tuple_iterator_next
abbrev qo9:=@PySem.W.kia_one
abbrev qp0:=@Nat.lt_irrefl
abbrev qp1:=@Nat.add_sub_cancel
abbrev qp2:=@List.filter_nil
abbrev qp3:=@List.append_nil
abbrev qp4:=@List.any_cons
abbrev qp5:=@Int.emod_lt_of_pos
abbrev qp6:=@List.filter_eq_nil_iff
abbrev qp7:=@decide_eq_true_eq
abbrev qp8:=@Nat.le_succ
abbrev qp9:=@List.take_add_one
abbrev qq0:=@List.nodup_append
abbrev qq1:=@List.ext_getElem?
abbrev qq2:=@Bool.eq_false_iff
abbrev qq3:=@PySem.wpAny_holding
abbrev qq4:=@PySem.W.methodCall_KW
abbrev qq5:=@List.all_map
abbrev qq6:=@PySem.Calls.spliced_cons
abbrev qq7:=@Nat.mul_lt_mul''
abbrev qq8:=@List.lookup_cons
abbrev qq9:=@Nat.add_le_add_right
abbrev qr0:=@PySem.Calls.callWith_builtin
abbrev qr1:=@PySem.wpAny_pyIter_list
abbrev qr2:=@Nat.add_assoc
abbrev qr3:=@Nat.lt_two_pow_self
abbrev qr4:=@List.of_mem_zip
abbrev qr5:=@List.length_nil
abbrev qr6:=@List.filter_eq_self
abbrev qr7:=@List.cons.injEq
abbrev qr8:=@Int.emod_nonneg
abbrev qr9:=@Int.add_mul
abbrev qs0:=@PySem.F.slot_enumerate_next
abbrev qs1:=@Bool.or_eq_true
abbrev qs2:=@Nat.mul_lt_mul_of_pos_left
abbrev qs3:=@Nat.le_of_mul_le_mul_right
abbrev qs4:=@PySem.W.callWith_K
abbrev qs5:=@Nat.lt_trans
abbrev qs6:=@List.getElem?_drop
abbrev qs7:=@Bool.false_eq_true
abbrev qs8:=@Nat.le_of_mul_le_mul_left
abbrev qs9:=@List.pairwise_iff_getElem
abbrev qt0:=@List.drop_eq_getElem_cons
abbrev qt1:=@Int.eq_of_mul_eq_mul_left
abbrev qt2:=@PySem.F.type_list_insert
abbrev qt3:=@PySem.F.slot_list_insert
abbrev qt4:=@List.pairwise_map
abbrev qt5:=@List.getElem?_set
abbrev qt6:=@Int.not_lt
abbrev qt7:=@Int.dvd_mul_of_dvd_right
abbrev qt8:=@PySem.F.plainAttrs_dict
abbrev qt9:=@List.filter_cons_of_pos
abbrev qu0:=@List.filter_cons_of_neg
abbrev qu1:=@Int.mul_pos
abbrev qu2:=@Int.dvd_trans
abbrev qu3:=@PySem.wpAny_Call_Name_kw
abbrev qu4:=@Nat.succ_ne_self
abbrev qu5:=@List.getElem_map
abbrev qu6:=@Int.fmod_nonneg_of_pos
abbrev qu7:=@PySem.wpAny_pyIter_enum
abbrev qu8:=@PySem.wpAny_dictEntries
abbrev qu9:=@PySem.F.slot_dict_pop
abbrev qv0:=@PySem.F.slot_dict_get
abbrev qv1:=@Nat.zero_add
abbrev qv2:=@Nat.min_self
abbrev qv3:=@List.map_nil
abbrev qv4:=@List.filter_map
abbrev qv5:=@Int.natAbs_dvd_natAbs
abbrev qv6:=@Int.le_trans
abbrev qv7:=@PySem.W.mg_of
abbrev qv8:=@PySem.wpAny_pyIter_zip
abbrev qv9:=@PySem.wpAny_isInstance
abbrev qw0:=@Bool.and_false
abbrev qw1:=@PySem.W.plainGet_of
abbrev qw2:=@PySem.F.slot_dict_itemiterator_iter
abbrev qw3:=@Nat.add_le_add_left
abbrev qw4:=@List.map_congr_left
abbrev qw5:=@List.filter_sublist
abbrev qw6:=@List.filterMap_cons
abbrev qw7:=@Int.mul_add
abbrev qw8:=@PySem.wpAny_notOrdered_dict
abbrev qw9:=@PySem.wpAny_execs_nil
abbrev qx0:=@List.findIdx?_cons
abbrev qx1:=@List.all_cons
abbrev qx2:=@Int.fmod_lt_of_pos
abbrev qx3:=@Int.add_assoc
abbrev qx4:=@PySem.F.slot_zip_next
abbrev qx5:=@PySem.wpAny_rule
abbrev qx6:=@beq_iff_eq
abbrev qx7:=@List.replicate_append_replicate
abbrev qx8:=@List.filter_congr
abbrev qx9:=@Int.mul_left_comm
abbrev qy0:=@PySem.Calls.evalArgs_plain
abbrev qy1:=@Nat.sub_zero
abbrev qy2:=@Nat.pow_zero
abbrev qy3:=@Nat.add_comm
abbrev qy4:=@Int.dvd_refl
open PySem in
noncomputable abbrev LLInt:=?p (?aV)
open PySem in
noncomputable abbrev Bi:=?p (?L5)
open PySem in
noncomputable abbrev Ro:=?iZ (?mK)
open PySem in
noncomputable abbrev OAddr:=?bF ?gJ
namespace L2
open PySem PySem.Spec PyProof.Rows
noncomputable abbrev Key:=Sum Int Str
abbrev bC:Key->?aZ->?dB
 | ?i k,v=>Value.isInt k v
 | ?i2,v=>Value.isStrOf x v
abbrev Bd3(w:World):Key->Int
 | ?i k=>hashInt k
 | ?i2=>hashStr w x
def Dh:∀{k:Key}{v:Value},bC k v=true->(∃i t,k=?nV i/\v=Value.int i t)\/(∃x t,k=?nR x/\v=Value.str x t)
 | ?o4,v,h=>by
   let ?i6:=Value.isInt_shape (k:=i) (v:=v) h;exact ?i #[i,t,rfl,e]
 | ?i2,v,h=>by
   let ?i6:=Value.isStrOf_shape (x:=x) (v:=v) h;exact ?r #[x,t,rfl,e]
def MP(i:Int)(t:Tok):bC (?o4) ?qQ=true:=by simp[bC,Value.isInt]
def mP(x:Str)(t:Tok):bC (?i2) ?FR=true:=by simp[bC,Value.isStrOf]
def Aa2(a b:Int):?s (?K2)=(a==b):=by
 by_cases e:a=b
 . subst e;simp
 . have h:¬?K2:=λq=>e (Sum.inl.inj q);rw[qf2 h];exact(ql4.mpr e).symm
def ZZ(a b:Str):?s (?EK)=?s (a=b):=by
 by_cases e:a=b
 . subst e;simp
 . have h:¬?EK:=λq=>e (Sum.inr.inj q);rw[qf2 h,qf2 e]
def Aa1(a:Int)(b:Str):?s (?SY=?nR b)=false:=qf2 (λq=>nomatch q)
def Aa0(a:Str)(b:Int):?s (?G5=?nV b)=false:=qf2 (λq=>nomatch q)
abbrev mixKind[?DB]:PySem.KeyKind prog w Key where
 is:=bC
 hash:=Bd3 w
 inj:=λv a b ha hb=>by
  rcases Dh ha with⟨i,t,rfl,rfl⟩|⟨x,t,rfl,rfl⟩
  . ext WP
    . injection e with e1 _;rw[e1]
    . exact ?o7
  . ext WP
    . exact ?o7
    . injection e with e1 _;rw[e1]
 byValue:=λk v h=>by
  rcases Dh h with⟨i,t,rfl,rfl⟩|⟨x,t,rfl,rfl⟩<;>rfl
 pyHash:=λhv h=>by
  rcases Dh hv with⟨i,t,rfl,rfl⟩|⟨x,t,rfl,rfl⟩
  . exact wpAny_pyHash_int h
  . exact wpAny_pyHash_str h
 eqBool:=λhu hv h=>by
  rcases Dh hu with⟨i,t,rfl,rfl⟩|⟨x,t,rfl,rfl⟩
  . ext WG
    . rw[Aa2]at h;exact wpAny_eqBool_int h
    . rw[Aa1]at h;exact SeqAt.EqAt.int_str i t y u _ _ _ _ h
  . ext WG
    . rw[Aa0]at h;exact SeqAt.EqAt.str_int x t j u _ _ _ _ h
    . rw[ZZ]at h;exact wpAny_eqBool_str h
 «strs»:=λk x t v h=>by
  rcases Dh h with⟨i,u,rfl,e⟩|⟨y,u,rfl,e⟩
  . exact ?o7
  . injection e with e1 _;subst e1;cases v<;>rfl
def fY[?DB](i:Int)(t:Tok):?O6 (?o4) ?qQ=true:=MP i t
def fX[?DB](x:Str)(t:Tok):?O6 (?i2) ?FR=true:=mP x t
set_option genInjectivity true in
inductive V where
 | non | bl (b:Bool) | int (i:Int) | str (x:Str) | byt (b:?SA) | flt (b:UInt64) | ref [?b0] | ty (n:String)
 deriving DecidableEq
noncomputable abbrev rS[?b0]:?l8:=?c ?bW
noncomputable abbrev iS(i:Int):?l8:=?c (?B)
abbrev RelV:?YC V ?aZ
 | ?t,u=>?q0
 | ?bD,u=>?qU
 | ?B,u=>?GJ
 | ?f5,u=>?L7
 | .byt b,u=>?QR
 | .flt b,u=>?L1
 | ?aS,u=>?mE
 | .ty n,u=>u=Value.type n
noncomputable abbrev Vals:?YC ?q ?w:=?k9 ?bU
def Vals.length[?bQ][?U](r:?bG):xs.length=us.length:=Paired.length r
def Vals.get:∀[?bQ][?U]{i:Nat}{x:V},?bG->?aN->∃u,us[i]?=?L/\?c7
 | _,_,_,_,?u,e=>?zJ
 | _,_,0,_,?F r _,e=>by simp at e;subst e;exact ?M3
 | _,_,i+1,x,?r5,e=>by
   let#[u,h1,h2]:=Vals.get (i:=i) (x:=x) t (?gA);exact#[u,?r8,h2]
def Vals.set{x:V}[?aO](r:?c7):?a2D (xs.set i x) (us.set i u)
 | _,_,_,?u=>?u
 | _,_,0,?r5=>?hS
 | _,_,i+1,?F q t=>?F q (Vals.set r i t)
def Vals.append:∀[?nK]{us ws:?w},?bG->?N ys ws->?N (xs++ys) (us++ws)
 | _,_,_,_,?u,s=>s
 | _,_,_,_,?hS,s=>?F r (?QM t s)
def Vals.take:?a0S xs.take us.take
 | _,_,0,_=>?u
 | _,_,_+1,?u=>?u
 | _,_,n+1,?hS=>?F r (Vals.take n t)
def Vals.drop:?a0S ?oO us.drop
 | _,_,0,r=>r
 | _,_,_+1,?u=>?u
 | _,_,n+1,?r5=>Vals.drop n t
abbrev Ou:?YC ?l8 ?mK
 | ?A,?L=>?d9
 | none,none=>True
 | _,_=>False
abbrev KV{κ:Type}:?a2J κ V->?p (?OI)->Prop:=?k9 λ(p:κ × V) (q:?OI)=>p.1=q.1/\?bU p.2 q.2
abbrev kV:Key->V
 | ?o4=>?B
 | ?i2=>?f5
inductive HO where
 | lst [?a4]
 | tup [?a4]
 | dK (kvs:?a2J Key V) | dT (kvs:?p (?QA))
 | set (S:?U4) (n:Nat)
 | ins (C dx:Addr) (fs:?dC)
 | own (x:Addr)
 | xd (fs:?dC)
 | met (f x:Addr)
 | rng (lo hi:Int)
 | frz (o:Obj) (u:HO)
 | tbl (ps:?cR)
 | ext (φ:?lV)
noncomputable abbrev Hp:=?gJ->?yL
abbrev upd(H:Hp)[?b0](o:HO):Hp:=λb=>if b=a then ?l else H b
def Ab{H:Hp}[?X]{o:HO}:upd H a o a=?l:=by unfold upd;rw[?S rfl]
def Ak{H:Hp}{a b:Addr}{o:HO}(h:b≠a):upd H a o b=H b:=by unfold upd;rw[?jJ]
def Fh{H:Hp}{a b:Addr}{o u:HO}(h:?mR)(h':?z6)(d:o≠u):a≠b:=by
 intro e;subst e;rw[h]at h';exact d (qb9 h')
def At{H:Hp}{a b:Addr}{o:HO}(h:?mR)(h':?Y):a≠b:=by
 intro e;subst e;rw[h]at h';cases h'
abbrev Qh[?bS][?b0](items:?cR):Prop:=∃o,?oS/\?xK/\?yN/\∃n,o.data=?aK ?mN n
def Qh.tup[?aT][?X][?XM]:IsTup h a ?mN:=let #[o,e,c,_,d]:=x;?zF
def Qh.lt[?aT][?X][?XM]:?uZ:=x.tup.lt
def Qh.new[?bS](items:?cR):Qh (h.push { cls:=?dQ,data:=?aK ?mN }) ?MB ?mN:=?N3
section
variable[?cI]
abbrev ObjOk(H:Hp)[?bS][?b0]:HO->Prop
 | ?n xs=>?fE/\∃(its:?w) (n:Nat),?iV/\?c9=?z3
 | ?M xs=>?fE/\∃its:?w,?iV/\Qh h a ?I
 | .dK kvs=>?IA/\?F7/\∃vs,KV kvs vs/\h.DictOf (mixKind P w) a vs
 | .dT kvs=>?IA/\?F7/\∃xs:?p (?IP),
    ?k9 (λ(p:?QA) (q:?IP)=>p.1=q.1/\H q.2.1=?c (?M (p.1.map kV))/\?bU p.2 q.2.2) kvs xs ∧
    ∃o es ep,?oS/\o.ExactDict/\?KW/\es.toList=?oZ (entryOfKey (tupleKind (mixKind P w)))/\(?oZ (·.1)).Nodup
 | ?S2=>h.SetOf (intKind P w) a S n
 | ?zP=>?S6/\?MJ/\dx≠a/\?c9=?c (?o9 C dx) ∧
    ∃mA,?yT/\(?y2)/\?wE mA (?sL (·.1))
 | .own _=>?K6
 | .xd fs=>∃mA,h.Ns1 a mA/\?y2
 | .rng lo hi=>∃t u v,?c9=?c ?vI
 | ?QO=>?oS/\?cA H h a u
 | .tbl ps=>?c9=?ZQ ps
 | .met f x=>?c9=?c (?xE ?bM ?hW)
 | .ext φ=>φ h/\(?K6)/\∀h1 h2:Heap,φ h1->(∀o,?rW a=?l->h2.get? a=?l)->φ h2
abbrev Rl(H:Hp)[?bS]:Prop:=∀a o,?mR->?vO
universe e9
section
variable[?u3][?eE]{h h':Heap}[?X]{o:HO}
def ObjOk.lt(x:?vO):?uZ:=by
 cases o with
 | lst xs=>let#[_,_,_,_,e]:=x;ext bC
 | tup xs=>let#[_,_,_,p]:=x;exact p.lt
 | dK kvs=>let ?RZ:=x;ext bC
 | dT kvs=>let ?RZ:=x;ext bC
 | set S n=>let#[o,_,_,_,e,_]:=x;ext bC
 | ins C dx fs=>let ?EP:=x;ext bC
 | own y=>let ?zU:=x;ext bC
 | xd fs=>let#[_,?EP,_]:=x;ext bC
 | rng lo hi=>let#[_,_,_,e]:=x;ext bC
 | frz ob u=>let#[e,_]:=x;ext bC
 | tbl ps=>exact qc1 (show ?c9=?c _ from x)
 | met f y=>exact qc1 (show ?c9=?c _ from x)
 | ext φ=>let#[_,?zU,_]:=x;ext bC
def Paired.mapP{α β:Type}{F G:?YC α β}:∀{l₁:?f3}{l₂:?p β},?k9 F l₁ l₂->(∀a b,F a b->G a b)->?k9 G l₁ l₂
 | _,_,?u,_=>?u
 | _,_,?hS,f=>?F (f _ _ r) (?KU t f)
def ObjOk.stay(x:?vO)(k:∀b u,(b=a\/H b=?p1)->?x0)
 (ho:∀b,H b=?p1->?j4=?p1) (ht:?rI):?cA P w H' h' a o:=by
 induction o with
 | lst xs=>let ?rG:=x;exact#[z,its,n,r,?cE]
 | tup xs=>let#[z,its,r,ob,e,c]:=x;exact#[z,its,r,ob,?cE,c]
 | dK kvs=>let(?a29 vs e):=x;exact(?a29 vs ?cE)
 | dT kvs =>
   let(?a29 xs e):=x;exact#[z,y,xs,?KU r λp q z=>#[z.1,ht _ _ z.2.1,z.2.2],ob,es,ep,?cE,c]
 | set S n=>let#[ob,es,ep,t,e,c]:=x;exact#[ob,es,ep,t,?cE,c]
 | ins C dx fs =>
   let#[d,z,ne,e,mA,#[od,es,ep,e2,c],r]:=x;exact#[ho _ d,z,ne,?cE,mA,#[od,es,ep,k _ _ (?r d) e2,c],r]
 | own y=>let#[ob,e]:=x;exact#[ob,?cE]
 | xd fs=>let#[mA,#[od,es,ep,e,c],r]:=x;exact#[mA,#[od,es,ep,?cE,c],r]
 | rng lo hi=>let#[t,u,v,e]:=x;exact#[t,u,v,?cE]
 | frz ob u ih=>let#[e,q]:=x;exact#[?cE,ih q]
 | tbl ps =>
   have e:?c9=?ZQ ps:=x;show ?h2 a=?ZQ ps;exact ?NJ
 | met f y =>
   have e:?c9=?c (?xE ?bM (?j y)):=x;show ?h2 a=?c (?xE ?bM (?j y));exact ?NJ
 | ext φ=>let#[p,#[o,e],st]:=x;exact#[st _ _ p λo q=>k _ _ ?dM q,#[o,?cE],st]
def Rl.lt[?nJ](e:?mR):?uZ:=(x a o e).lt
def Rl.fresh[?nJ](e:?yS):?l0:=by
 cases q:H a with
 | none=>rfl
 | some u=>exact ?ZD (x.lt q) e
def Rl.kept[?nJ][?tC]:Rl P w H h':=λa o e =>
 (x a o e).stay (λb u _ q=>?nQ) (λ_ q=>q) ?m0
def Rl.laid[?nJ][?tC](hp:?yS)(new:?cA P w ?kJ h' a o):Rl P w ?kJ h':=λb u e=>by
 have hn:=x.fresh hp;by_cases hb:b=a
 . subst hb;rw[Ab]at e;cases e;exact new
 . rw[Ak hb]at e;exact(x b u e).stay (λc v _ q=>k c v q) (λc q=>?nU) λc xs q=>?nU
universe e9
abbrev Rd(H:Hp)[?b0](u:HO):Prop:=H a=?L\/∃o,H a=?xV
def Rd.ok[?u3]{H:Hp}[?aT][?X]{u:HO}(r:Rd H a u)[?nJ]:?cA P w H h a u:=by
 rcases r with r|⟨o,r⟩
 . exact x a u r
 . let#[_,q]:=x a _ r;exact q
abbrev Mut:?yL->Prop
 | ?c (?o6)=>True
 | ?c (.dK _)=>True
 | ?c (.dT _)=>True
 | ?c (.set _ _)=>True
 | ?c (.ins _ _ _)=>True
 | ?c (.ext _)=>True
 | _=>False
section
variable[?u3]{H:Hp}{h h':Heap}{x e:Addr}{o':HO}
def Rl.write(ok:?x4)[?VE]
 (new:?cA P w (?YL x o') h' x o'):Rl P w (?YL x o') h':=λb u q=>by
 have Ar0:∀c y,H c=?c (.own y)->c≠x:=λc y r z=>?PL
 have Bb2:∀c xs,H c=?t5->c≠x:=λc xs r z=>?PL
 by_cases hb:b=x
 . subst hb;rw[Ab]at q;cases q;exact new
 . rw[Ak hb]at q;by_cases hbe:b=e
   . have q':H b=?c (.own x):=by
      rcases he with z | z
      . exact ?x (hbe.trans z) hb
      . rw[hbe];exact z
     rw[q]at q';cases q';let#[v,hv]:=heo;exact#[v,by rw[hbe];exact hv]
   . apply(ok b u q).stay (λc v hc r=>k c v ?_ r) (λc r=>by rw[Ak (Ar0 c b r)];exact r) λc xs r=>by rw[Ak (Bb2 c xs r)];exact r
     rcases hc with rfl | hc
     . exact hbe
     . rintro rfl;rcases he with z | z
       . exact Ar0 c b hc z
       . rw[hc]at z;cases z;exact hb rfl
universe e9
structure Un(fs ex:?a2)(H H':Hp)(h h':Heap):Prop where
 keep:∀b o,?dU->?Y->b ∉ fs->?lK->?oI
 slot:∀b o,?dU->?Y->b∈fs->?lK->?IR
 free:∀b o,?dU->?Y->?lK->?s1
 there:∀b o,?dU->?lK->?RA
 tups:?rI
 frzs:?wY
 tbls:?NF
section
variable{fs fs' ex ex':?a2}{H H1 H2:Hp}{h h1 h2 h':Heap}{a x e:Addr}{o:HO}
def Un.any(u:?a0F H1 h1){b:Addr}{ob:Obj}(q:?p9=?c ob)(n:?Y)(hx:?lK):∃sl,?rW b=?c { ob with slots:=sl }:=by
 by_cases hb:b∈fs
 . exact u.slot b ob q n hb hx
 . exact#[?QP,?uY b ob q n hb hx]
def Un.kept[?tC]:?a0F H h' :=
 #[λb ob q _ _ _=>?yC,λb ob q _ _ _=>#[?QP,?yC],λ_ _ _ n _=>n,λb ob q _=>#[ob,?yC],?m0,λ_ _ _ q=>q,λ_ ps q=>#[#v[],?BC]]
def Un.refl:?a0F H h:=?x8 ?m0
def Un.laid[?tC](hp:?yS)(hn:?l0):?a0F ?kJ h' where
 keep:=λb u q _ _ _=>?nQ
 slot:=λb u q _ _ _=>#[u.slots,?nQ]
 free:=?a31 (?a0E (qc1 q) hp)
 there:=λb u q _=>#[u,?nQ]
 tups:=λb xs q=>?nU
 frzs:=λb u xs q=>?nU
 tbls:=?a0T (At q hn)
def Un.write[?VE]:Un fs ex H (?YL x o) h h':=by
 have hx:∀b,?Y->b≠x:=λb n z=>by subst z;rw[n]at mu;exact mu
 have hb:∀b,?Y->?sS:=λb n z=>by
  subst z;rcases he with r | r
  . exact hx b n r
  . rw[n]at r;cases r
 have hm:∀b u,?z6->¬Mut (?L)->b≠x:=λb u q nm z=>by subst z;rw[q]at mu;exact nm mu
 apply#[λb u q n _ _=>?SB,λb u q n _ _=>#[u.slots,?SB],?a31 (hx b n),λb u q _=>?_,
  λb xs q=>?NK,λb u xs q=>?NK,?a0T (hm b _ q λz=>z)]
 by_cases hbe:b=e
 . subst hbe;exact heo
 . exact#[u,k b u hbe q]
universe e9
abbrev trk[?bS](H:Hp):?a2:=(?fX ?MB).filter λa=>(H a).isSome
abbrev DE[?bS](H:Hp):Heap:=PySem.W.hideAll h (trk h H)
def mV[?bS](H:Hp):(DE h H).objs.size=h.objs.size:=PySem.W.hideAll_size _ _
def qY[?aT]{H:Hp}[?k5](e:?dU)(n:?Y):?a27 ?l :=
 PySem.W.hideAll_get _ e λhm=>by
  have q:(H b).isSome=true:=(qm6.mp hm).2;rw[n]at q;simp at q
def UP[?aT]{H:Hp}[?k5](e:?a27 ?l):?dU/\?Y:=by
 have e':h.get? b=some o:=PySem.W.of_hideAll (trk h H) e;apply#[e',?_];cases q:H b with
 | none=>rfl
 | some x =>
   have hm:b∈trk h H:=qm6.mpr #[qd0.mpr (qc1 e'),by simp[q]];have z:?a27 none:=PySem.W.hideAll_none (trk h H) hm;rw[z]at e;cases e
structure Mod[?d][?fL]:Prop where
 kin:?SR
 glob:?xO
 blt:∃mb,base.Ns ?FL mb/\?PR
 nolimit:base.NoLimit
structure Cx where
 prog:Program
 w:World
 K:PySem.W.Frag
 mg:?c6
 base:Heap
 A:Around
 N:?E
 s₀:Shared
 H₀:Hp
 env:Env
 outer:?d1
 stack:?d1
 ex:?a2
 fn:Str->?dB
 calm:Bool
 pn:Bi
 xe:?gF
abbrev OI(l:?d1):?a2:=l.filterMap (·.frame)
noncomputable abbrev Cx.fs(X:Cx):?a2:=OI ?qF
abbrev Vis(sc:Scope)(x:Str):Prop:=?l5 x=?e1\/?wZ\/?l5 x=?cP
abbrev XW(sc:Scope)(x:Str):Prop:=?HP
abbrev Br0(env:Env)[?bS](m:?c6)(x:Str)[?dL]:Prop :=
 (?rJ x=?e1/\m x=?L)\/((?rJ x=?aW\/?rJ x=?cP)/\∃c,?AB x=?bE/\h.IsCell c (?L))
structure Cx.Ok(X:Cx):Prop where
 mod:?P1
 kind:X.env.scope.kind=?j5
 glob:X.env.globals=mainGlobals
 blt:X.env.builtins=builtinsNs
 above:?YB X.env.locals
 inj:∀x y c,?e7->?pM y=?bE->x=y
 has:∀x,(?PB)->∃c,?e7
 cab:∀x c,?zX->?e7->?YB c
 hd:?rA->?UE
 frames:X.A.frames=?c ?gQ
 stk:X.stack=X.outer\/(X.stack=X.env::X.outer/\X.env.frame=?c ?oG)
 exf:∀b∈X.ex,?i8/\?RY
 bs:∀b o,?mP->?yE/\?MR
 bsz:X.base.objs.size<=X.s₀.heap.objs.size
 noex:∀b o,?mP->?Q7
 exfs:∀b∈X.ex,?q4
 funs:?EX ?bI ?qF
 frf:∀b∈X.fs,?MR
structure Bm[?cK](σ:?x3)(H:Hp)[?bR]:Prop where
 ok:X.Ok
 os:s.os=X.s₀.os
 bare:?QB
 base:Un X.fs X.ex X.H₀ H X.s₀.heap ?y
 loc:∃m,?GC/\∀(i:Nat) (x:Str) (v:V),?jE->?OH->?rT->∃u,?d9/\Br0 ?g ?y m x u
 cell:∀x c,?e7->∃v,?oA c v
 free:?a12 ?oG
 freeC:∀x c,?e7->?a12 c
 pin:∀p∈?BU,?NQ
 hok:Rl ?a1 X.w H ?y
 len:σ.length=X.N.length
section
variable[?uE]{σ:?x3}[?eE][?a5]{h':Heap}
def Cx.Ok.nofr(ok:X.Ok)[?k5](e:?mP):?q4:=λhb=>by
 have:=(ok.funs.mem hb).1;rw[e]at this;cases this
def Bm.bs[?e]:∀b o,?mP->?DM:=λb o e =>
 #[?sQ b o (?rZ).1 (?rZ).2 (I.ok.nofr e) (?yB b o e),?j9 b o (?rZ).1 (?rZ).2 (?yB b o e)]
def Bm.bk[?e]:∀b o,?mP->?cY:=λb o e=>(I.bs b o e).1
def Bm.mod[?e]:?P1:=I.ok.mod
def Bm.kIn[?e]:X.K.In ?y:=I.ok.mod.kin.keeps I.bk
def Bm.lt[?e]:?a1T X.env.locals:=let #[_,hn,_]:=I.loc;hn.lt
def Bm.sz[?e]:?YB s.heap.objs.size:=qa5 ?rK (qe6 I.lt)
def Bm.nofs[?e][?X](h:?HS):a ∉ X.fs:=λhb=>by
 let ?U8:=I.ok.funs.mem hb;exact ?ZD (qc1 ho) (qa5 I.sz h)
def Bm.cne[?e]:?a1X X.env.locals:=λx c e z=>by
 let ?L6:=?rR;let#[m,#[o',es,ep,ho',hd',_],_]:=I.loc;rw[z,ho']at ho;cases ho;rw[hd']at hd;cases hd
def Bm.funs[?e]:?o0 ?bI ?qF:=by
 have all:∀(l:?d1),(∀b∈OI l,?IG)->?EX ?bI l->?o0 ?bI l:=by
  intro l
  induction l with
  | nil=>intro _ _;trivial
  | cons env r ih =>
    intro hs hl;let#[hk,#[L,o,hf,hn,ho,hd],hr]:=hl;have hL:L∈X.fs:=hs L (by unfold OI;rw[qw6,hf];exact qb1);let#[sl,e]:=?T3 L o ho (?UQ L hL) hL λz=>?QE L z hL;exact#[hk,#[L,_,hf,hn,e,hd],ih (λb hb=>hs b (by unfold OI;rw[qw6,hf];exact ?OR)) hr]
 exact all ?qF (λ_ hb=>hb) I.ok.funs
def Bm.stack[?e]:?o0 ?bI ?gQ:=by
 rcases I.ok.stk with e|⟨e,hf⟩
 . rw[e];exact I.funs
 . rw[e];let#[m,hn,_]:=I.loc;apply ?F (by rw[I.ok.kind];decide) hf hn ?_ I.funs;exact Heap.get?_none_of_le (qa5 ?AA ?rK)
def Bm.stkSub[?e]:∀b∈?lJ,b∈X.env.locals::X.fs:=λb hb=>by
 rcases I.ok.stk with e|⟨e,hf⟩
 . rw[e]at hb;exact ?OR
 . rw[e]at hb;unfold OI at hb;rw[qw6,hf]at hb;exact hb
def Bm.stkFree[?e]:∀b∈?lJ,?Y:=λb hb=>by
 rcases ?l1 (?T1 b hb) with e | hb
 . rw[e];exact I.free
 . let ?U8:=I.ok.funs.mem hb;exact ?j9 b o ho (?UQ b hb) λz=>?QE b z hb
def Bm.step[?WX][?e]
 [?C9]
 (keep:∀b o,?i8->?q4->?l6->?cY->?Y->?oI)
 (slot:∀b o,?i8->?IG->?l6->?cY->?Y->?IR) (free:∀b o,?l6->?cY->?Y->?s1)
 (there:∀b o,?l6->?cY->?RA)
 (tups:?rI) (frzs:?wY) (tbls:?NF)
 (ns:∀m,?GC->h'.Ns ?oG m) [?D8] (hg:?oW g') :
 ?S0:=by
 have neL:∀b o,?yE->?i8:=λb o e=>?a0E ?e3 ?rK
 have neC:∀b o,?yE->?Q7->?l6:=λb o e hx hb=>by
  rcases (hch b hb).1 with z | z
  . exact hx z
  . exact ?ZD ?e3 z
 have cellK:∀x c,?e7->∀v,?oA c v->h'.IsCell c v:=λx c e v ?v3=>by
  have nch:c ∉ ch:=?TM;by_cases hc:c∈X.fs
  . let#[sl,q]:=?a09 slot;exact#[_,q,hd]
  . exact#[o,?a09 keep,hd]
 apply#[I.ok,?hZ,hg,#[?sK,?sK,λb o e n hx=>?_,?GV,λb xs e=>tups b xs (?G3 b xs e),λb o xs e=>frzs b o xs (?KH b o xs e),λb ps e=>?_],?_,?RC,?_,?RC,?vU,hok,?sM]
 . exact keep b o (neL b o e) hb ?p0 (?a0K ?sQ hx) (?j9 b o e n hx)
 . ext CO;let ?I2:=slot b _ (neL b o e) hb ?p0 e1 (?j9 b o e n hx);exact ?I2
 . ext tF;exact free b o' ?p0 e1 (?j9 b o e n hx)
 . ext tF;exact there b o' ?p0 e1
 . let#[m1,e1]:=?JW b ps e;let#[m2,e2]:=tbls b _ e1;exact#[m1++m2,by rw[e2,Array.append_assoc]]
 . let ?zA:=I.loc;apply#[m,ns m hn,?NG];let ?vJ:=hl i x v e1 e2 e3;apply ?HF;rcases l with l|⟨k,c,e,z⟩
   . exact ?i l
   . exact ?r #[k,c,e,cellK x c e _ z]
 . let ?BL:=?rR;exact#[v,cellK x c e v z]
 . let#[m,#[o,_,_,ho,_],_]:=I.loc;exact free _ o (?EH) ho ?dO
 . let ?L6:=?rR;exact free c o (?TM) ho (?d5 x c e)
 . ext CZ;have nch:p.1 ∉ ch:=λz=>(hch p.1 z).2.2.2 p hp rfl;exact#[keep p.1 p.2 ne nf nch e n,free p.1 p.2 nch e n,ne,nf,d]
def Bm.un[?eF][?e](u:Un X.fs [] H H' ?y h')[?D8]:?Y7 H' ?lA:=by
 let ?PW:=?vK;let ?FV:=u.any ho ?dO ?K
 exact ?nS (g':=s.gens) (d':=s.drawn) (ch:=[]) (λ_ z=>?GF) (?a36 ?uY) (?a36 u.slot) (λb o _ e n=>u.free b o e n ?K) (λb o _ e=>u.there b o e ?K) u.tups u.frzs u.tbls (λm' hm=>by
  ext VR) hok ?c5
def Bm.call[?WX][?e](u:?a22 ch h')[?D8](hg:?oW g')
 [?C9] :
 ?S0:=by
 let ?PW:=?vK;let ?FV:=u.any ho ?dO ?EH
 exact ?nS (ch:=ch) hch (λb o hL hb hc e n=>?uY b o e n (λz=>(?zB).elim hL hb) hc) (λb o _ _ hc e n=>u.any e n hc) (λb o hc e n=>u.free b o e n hc) (λb o hc e=>u.there b o e hc) u.tups u.frzs u.tbls (λm' hm=>by
  ext VR) hok hg
def Bm.turned[?eF]{it:Addr}[?e](k:∀b o,?UU)(hn:?a12 it)(hL:it≠X.env.locals)
 (h1:it∈X.ex\/?YB it) (h2:?a1X it) (h3:∀p∈?BU,p.1≠it):?C3:=by
 have nit:∀b u,?z6->b≠it:=λb u e z=>by rw[z,hn]at e;cases e
 apply ?nS (g':=s.gens) (d':=s.drawn) (ch:=[it]) (?h8) (?ZT ?uK) (?ZT #[?xF,?uK]) (λ_ _ _ _ n=>n)
  (λb o hc e=>#[o,?uK]) (λ_ _ e=>e) (λ_ _ _ e=>e) (λb ps e=>#[#v[],by rw[e];simp]) (λm hm=>?_) (λb u e=>?_) ?c5
 . ext tL
   subst e;exact#[h1,hL,h2,h3]
 . let ?EM:=hm;exact#[o,es,ep,k _ o (?l4 hL) ho,r]
 . apply ?F3 (λc v hc q=>k c v ?_ q) (λ_ q=>q) ?m0;rcases hc with z | z
   . rw[z];exact nit b u e
   . exact nit c _ z
def Bm.tok[?e](t:Nat):Bm X Ae σ H { s with toks:=t }:=I.un (h':=s.heap) (t':=t) Un.refl ?b7
def Bm.kept[?eF][?e][?X9]:?C3:=I.un (?x8 k) (I.hok.kept k)
def Bm.laid[?X]{o:HO}[?eF][?e][?X9](hp:?HS)(new:?cA ?a1 X.w ?kJ h' a o) :
 ?Y7 ?kJ ?lA:=I.un (Un.laid k hp (?hR hp)) (?FT k hp new)
def Bm.write{x e:Addr}{o:HO}[?eF][?e](mu:?G8)(he:?PX)(k:∀b u,?sS->?HE)(heo:?UR)
 (new:?cA ?a1 X.w (?YL x o) h' x o):?Y7 (upd H x o) ?lA:=I.un (Un.write mu he k heo) (I.hok.write mu he k heo new)
def Bm.pins_of{WT:Bi}[?e](h:∀p∈WT,?NQ):Bm X WT σ H s :=
 #[I.ok,?hZ,?c5,?BN,?pV,?eI,?dO,?d5,λp hp=>?RG (λz=>?i4 p (?EN _ z)) (h p),?b7,?sM]
def fU{N:?E}(hN:N.Nodup){i j:Nat}{x:Str}(a:N[i]?=?bH)(b:N[j]?=?bH):i=j:=by
 let#[h1,e1]:=?gC a;let#[h2,e2]:=?gC b;exact(List.getElem_inj hN).mp (e1.trans e2.symm)
def aM{M:Model}[?V][?T][?fR]{v:V}[?aO][?nB][?e][?tB][?fU]
 (h:∀s',?QL->(∃a,?jF a ?y ?dZ/\(a=X.env.locals\/?FW))->?vP) [?hE]:?OV:=by
 let ?zA:=?vK;have hcls:(X.env.scope.kind==.class || (X.env.scope.kind==.module&&X.env.locals != X.env.globals))=false:=by rw[I.ok.kind];rfl
 have hiσ:i<σ.length:=by rw[I.len];exact ?x5
 have cne:=I.cne
 have tracked:∀[?X]{h':Heap},(∃o,?aY a=?l/\?l0)->?jF a ?y h'->Rl ?a1 X.w H h':=λ{a h'} ha hs b ob e=>by
  let#[_,_,hfree]:=ha;apply(?b7 b ob e).stay (λc w' hc q=>(hs.2 c ?_).trans q) (λ_ q=>q) ?m0;rintro rfl;rcases hc with rfl | hc
  . rw[hfree]at e;cases e
  . rw[hfree]at hc;cases hc
 rcases hx with hk | hk
 . apply wpAny_storeName_local hk hn (λh' hn' hs=>?_) hcls;let#[oL,_,_,hoL,_]:=id hn;apply h _ #[I.ok,?hZ,?c5,?MN,#[_,hn',?KI],λy c e=>?_,?dO,?d5,?vU,tracked #[oL,hoL,?dO] hs,?JC] #[_,hs,?rD]
   . exact ?BM (?a0K ?sQ hx)
   . ext CO;exact#[sl,?BM e1]
   . ext tF;exact#[o',?BM e1]
   . by_cases hj:j=i
     . ext W6;exact#[u,r,?i #[hk,?aH]]
     . ext VO;rcases q with⟨k,e⟩|⟨k,c,e,z⟩
       . apply ?i #[k,?_];have:y≠x:=λe=>hj (fU hN e1 (e▸hi));simp[this,e]
       . exact ?r #[k,c,e,?PK]
   . let#[w',z]:=?eI y c e;exact#[w',?PK]
   . ext CZ;exact(?a2A ne)
 . have hfn:?zX:=by
    rcases hf with z | z
    . exact z
    . rw[z]at hk;cases hk
   let#[c,hc]:=I.ok.has x (?i hk);let#[w',z]:=?eI x c hc;apply wpAny_storeName_cell ?j0 hk hc z (λh' hc' hs=>?_);let#[oc,hoc,Bf5]:=id z;apply h ?gR #[I.ok,?hZ,?c5,?MN,#[m,?T4 hs (?l4 (cne x c hc)),?KI],λy c' e=>?_,?dO,?d5,?vU,tracked #[oc,hoc,?d5 x c hc] hs,?JC] #[c,hs,?r hc]
   . exact ?yR (?a0K ?sQ hx)
   . ext CO;exact#[sl,?yR e1]
   . ext tF;exact#[o',?yR e1]
   . by_cases hj:j=i
     . ext W6;exact#[u,r,?r #[?i hk,c,hc,hc']]
     . ext VO;rcases q with q|⟨k,c',e,z'⟩
       . exact ?i q
       . apply ?r #[k,c',e,z'.sameBut hs ?_];rintro rfl;exact hj (fU hN e1 (?UM _ _ _ e hc▸hi))
   . by_cases hcc:c'=c
     . subst hcc;exact#[_,hc']
     . let#[w2,z2]:=?eI y c' e;exact#[w2,z2.sameBut hs hcc]
   . ext CZ;apply(?a2A ?_);intro q;rw[q,hoc]at e;have q':oc=p.2:=qb9 e;exact d w' (by rw[←q'];exact Bf5)
def EL{M:Model}[?V][?T][?fR]{v:V}[?aO][?nB][?e][?tB][?fU]
 (h:∀s',?QL->?vP) [?hE]:?OV :=
 aM I hN hi hx r (λs' I' _=>h s' I') hf
def Bm.call'{s':Shared}{ch:?a2}[?e](ho:?AT)(u:?a22 ch ?dZ)(hok:?I8)(hg:?lD)
 [?C9]:?sN:=by
 let#[h',g',d',t',o']:=s';have e:o'=s.os:=ho;subst e;exact I.call (g':=g') (t':=t') (d':=d') u hok hg hch
universe e9
noncomputable abbrev XK:=?aZ->OAddr->?a6
noncomputable abbrev St:=?x3
noncomputable abbrev VK:=?gT
noncomputable abbrev TE:=St->?qY
noncomputable abbrev TT:=?a2N ?IM
noncomputable abbrev TA:=?a2N ?yP
structure Ends where
 nx:?C
 rt:VK
 bk:?C:=?gN
 ct:?C:=?gN
noncomputable abbrev TS:=Ends->?C
inductive EP[?cK](σ:St)(Q:VK)[?dL][?cM]:Prop
 | mk (v:V) [?tQ] [?fU] (q:?lT):?DX
inductive TP[?cK](σ:St)[?k1](b:Bool)[?cM]:Prop
 | mk [?tQ] (q:Q b H'):TP X Ae σ Q b s'
inductive AP[?cK](σ:St)(Q:?yP)[?dI][?cM]:Prop
 | mk [?dK] [?tQ] [?uC] (q:Q vs H'):AP X Ae σ Q us s'
inductive NP[?cK](N:?C)[?cM]:Prop
 | mk [?XI] (q:?oQ):?a0B N
inductive HP[?cK](σ:St)(Q:?a6)[?cM]:Prop
 | mk [?tQ] (q:Q H'):?EU
inductive YP[?cK](σ:St)[?dL](Y:?gT)(T:Prop)[?u9](s2:Shared):Prop
 | mk (x:V) (H':Hp) (i:?HW) (r:?c7) (y:Y x H') (t:T) (f:?US):YP X Ae σ u Y T fp s2
inductive RP[?cK](Q:VK)[?dL][?cM]:Prop
 | mk (v:V) [?XI] [?fU] (q:?lT):RP X Ae Q u s'
abbrev SP[?cK](D:Ends)(f:Flow)[?cM]:Prop :=
 match f with
 | .next=>?a0B ?iC
 | .brk=>?a0B D.bk
 | .cont=>?a0B D.ct
 | .ret u=>RP X Ae D.rt u s'
abbrev PE(X:Cx)(e:Expr)(t:TE):Prop :=
 ∀[?P] (Q:VK),?D->?j7->?Y0 (?eU) ?bK
abbrev PT(X:Cx)(e:Expr)(t:TT):Prop :=
 ∀[?P] [?k1],?a2R (?BR e ?g (?eU)) TP
abbrev PW(X:Cx)(e:Expr)(t:TT):Prop :=
 ∀(whole:Sem ?aZ) [?P] [?k1],?a2R (?E9) TP
def PW.pt{X:Cx}[?cN]{t:TT}(h:PW X e t):PT X e t:=h _
abbrev PA(X:Cx)(es:?eW)(t:TA):Prop :=
 ∀(pos:Pos) [?P] (Q:?yP),?a2R (spliced (?vA)) AP
abbrev PS(X:Cx)(st:Stmt)(t:TS):Prop :=
 ?a2P exec
abbrev HC(X:Cx)(st:?f7)(t:TS):Prop :=
 ?a2P execs
def D9{α:Type}{t:Sem α}{Q Q':α->?lE}{M:Model}[?V][?T][?a5](h:?YH M t)(hQ:∀a s,Q a s->Q' a s):?f M A t Q' E s:=qn9 h hQ λ_ _ x=>x
section
variable{X:Cx}
inductive xY(i:Nat)(σ:St)[?cL]:Prop
 | mk:∀v,(?OH)->(Q v H)->?E4
abbrev Am4(i:Nat):TE:=λσ H Q=>?E4
abbrev tC(v:V):TE:=?a1F v
def zE[?fR][?W](hN:?jE)(hv:?rT)[?jR][?X8]:?GE:=by
 ext Q;let#[v,e,h]:=h;let ?zA:=I.loc;let ?vJ:=hl i x v hN e hv;have fin:?YW u s:=?AZ
 rcases l with⟨hk,hm⟩|⟨hk,c,hc,hcell⟩
 . exact ?xT (wpAny_loadName_local ?j0 hk hn hm fin) hd
 . rcases hk with hk | hk
   . exact ?xT (wpAny_loadName_cell ?j0 hk hc hcell fin) hd
   . exact ?xT (wpAny_loadName_free ?j0 hk hc hcell fin hcd) hd
def Al{i j pos}:?ZC (?B) (?B):=?ZH wpAny_Constant_int #[?B,H,?g6,?bX,h]
def Gd{b j pos}:?ZC (?cD b) (?bD):=?ZH Constant_bool #[?bD,H,I,rfl,h]
def iE{j pos}:?ZC ?aJ ?t:=?ZH Constant_none #[?t,H,I,rfl,h]
def N1{x j pos}:?ZC (?f5) (?f5):=?ZH Calls.Constant_str #[?f5,H,?g6,?bX,h]
abbrev Gl(X:Cx)(x:Str):Prop:=?lZ x=?c .globalImplicit
def Xr[?T]{Ae:Bi}[?a5][?bO]{x:Str}[?aO][?W][?eA][?e][?XW](h:Q u s)
 [?jR]:?JT :=
 ?PA ?j0 hg (Calls.loadGlobal_global (?a07 I.bk) hm h) hd
def L8[?T]{Ae:Bi}[?a5][?bO]{x:Str}[?aO][?W][?eA][?e][?WU](h:Q u s)
 [?tO] [?jR]:?JT:=by
 let#[mb,h1,h2]:=I.mod.blt;exact ?PA ?j0 hg (Calls.loadGlobal_builtin (?a07 I.bk) hm (by rw[I.ok.blt];exact h1.keeps I.bk) ((h2 x hn).trans hv) h) hd
def Iu{x:Str}{v:V}[?aO][?W][?XW][?fU][?jR]:?SG :=
 λ_ _ _ H _ I h=>Xr I hg hm ?AZ hd
def Gm{x:Str}{v:V}[?aO][?W][?WU][?fU][?tO][?jR]:?SG :=
 λ_ _ _ H _ I h=>L8 I hg hm hv ?AZ hn hd
variable{a b:Expr}{ta tb:TE}[?W]
def Ar1(b:Expr){op:CmpOp}(h:?MS)(h2:?TD):?AW:=by
 ext VN
 ext VJ
 cases b<;>simp[behindInMarks,e1,e2]
inductive ItB[?k1](x:V)(H1:Hp):Prop
 | mk:∀c,?qS->(Q c H1)->?HO
abbrev tB(t:TE):TT:=?Y6 t ?HO
def C9[?cN]{t:TE}(h:?ZP e t)(he:∀whole,?E9=(do let v ←whole;?A9 e.pos;?m1 [v] (truthy v)):=by intro _;rfl):PT X e (tB t):=by
 intro Ae s σ H Q I hw;apply isTrue_plain (D9 (?YA h hw) ?gV) (he _);ext dG;let#[d,rfl,q]:=q1;cases r1;exact ql7 #[H1,I1,q]
variable{tA tB':TT}{rest:?eW}
abbrev A91(t u:TT):TT:=λσ H Q=>t σ H λc H1=>if ?lI then ?N0 else Q ?cO H1
abbrev tOr(t u:TT):TT:=λσ H Q=>t σ H λc H1=>if ?lI then Q ?d8 H1 else ?N0
abbrev A89(t:TT):TT:=λσ H Q=>t σ H ?S8
def CH[?nI]:?a11 [a] tA:=by
 intro wh Ae s σ H Q I h;apply isTrue_and (D9 (ha Ae s σ H Q I h) λc s1 e=>?_);cases c with
 | true=>exact isTrue_and_nil e
 | false=>exact e
def Nv[?nI]:?a1B [a] tA:=by
 intro wh Ae s σ H Q I h;apply isTrue_or (D9 (ha Ae s σ H Q I h) λc s1 e=>?_);cases c with
 | false=>exact isTrue_or_nil e
 | true=>exact e
def IC[?nI](hb:?a11 (b::rest) tB'):?a11 (a::b::rest) (A91 tA tB'):=by
 intro wh Ae s σ H Q I h;apply isTrue_and (D9 (ha Ae s σ H _ I h) λc s1 _z=>?_);let#[H1,I1,q1]:=_z;cases c with
 | true=>exact ?IH
 | false=>exact ?nY
def Oo[?nI](hb:?a1B (b::rest) tB'):?a1B (a::b::rest) (tOr tA tB'):=by
 intro wh Ae s σ H Q I h;apply isTrue_or (D9 (ha Ae s σ H _ I h) λc s1 _z=>?_);let#[H1,I1,q1]:=_z;cases c with
 | true=>exact ?nY
 | false=>exact ?IH
def Df[?nI]:PT X (?uV .Not a pos) (A89 tA):=by
 ext Q;exact isTrue_not (D9 (ha Ae s σ H (?S8) I h) λc s1 ?nY=>?nY)
inductive sP(tb:TE)(σ:St)[?k2]:Prop
 | mk:∀c,?qS->(if ?lI then ?xY else Q (?pA) H1)->?MC
abbrev An4(ta tb:TE):TE:=?Y6 ta ?MC
inductive XY(tb:TE)(σ:St)[?k2]:Prop
 | mk:∀c,?qS->(if ?lI then Q (?mG) H1 else ?xY)->?LG
abbrev A88(ta tb:TE):TE:=?Y6 ta ?LG
inductive SN[?k2]:Prop
 | mk:∀c,?qS->(Q (?E1) H1)->?QX
abbrev Am8(ta:TE):TE:=?Y6 ta ?QX
def Kw{op}{t:TE}(h:?ZP a t):?ZP (?c4 op [a] pos) t:=?a04 BoolOp_one
def L3[?uA](hb:?ZP (?c4 .And (b::rest) pos) tb):?ZP (?c4 .And (a::b::rest) pos) (An4 ta tb):=by
 intro Ae s σ H Q I h;apply BoolOp_and (D9 (ha Ae s σ H _ I h) λv s1 _z=>?_);let#[x,H1,I1,r1,q1]:=_z;let#[c,rfl,q1]:=q1;cases r1;apply ql7 ?_;cases c with
 | true=>ext D0
 | false=>exact#[?pA,H1,I1,rfl,q1]
def pQ[?uA](hb:?ZP (?c4 .Or (b::rest) pos) tb):?ZP (?c4 .Or (a::b::rest) pos) (A88 ta tb):=by
 intro Ae s σ H Q I h;apply BoolOp_or (D9 (ha Ae s σ H _ I h) λv s1 _z=>?_);let#[x,H1,I1,r1,q1]:=_z;let#[c,rfl,q1]:=q1;cases r1;apply ql7 ?_;cases c with
 | false=>ext D0
 | true=>exact#[?mG,H1,I1,rfl,q1]
def ZE[?uA]:?ZP (?uV .Not a pos) (Am8 ta):=by
 ext Q;apply ?EL (?H4);ext dG;let#[c,rfl,q1]:=q1;cases r1;exact not_of (ql7 #[?E1,H1,I1,rfl,q1])
abbrev tIf(t:TT)(ta tb:TE):TE:=λσ H Q=>t σ H λc H1=>if ?lI then ta σ H1 Q else ?xY
def M3{c:Expr}(hc:PT X c tA)[?hI]:?ZP (.IfExp c a b pos) (tIf tA ta tb):=by
 intro Ae s σ H Q I h;apply wpAny_IfExp (D9 (hc Ae s σ H _ I h) λd s1 _z=>?_);let#[H1,I1,q1]:=_z;cases d with
 | true=>exact ?Y8 ha Q
 | false=>ext D0
universe e9
abbrev SqL[?d](H:Hp)[?b0][?a4]:Prop :=
 Rd H a ?kT ∨
  ∃(o:Obj) (its:?cR) (n:Nat),?LV/\o.cls=?b5/\?MW
abbrev SqT[?d](H:Hp)[?b0][?a4]:Prop :=
 Rd H a ?qH ∨
  ∃(o:Obj) (its:?cR) (n:Nat),?LV/\?xK/\?MW
abbrev Bl5:?aZ->?l8
 | ?aJ=>?c ?t
 | ?cD b=>?c (?bD)
 | ?h i _=>?c (?B)
 | ?bB x _=>?c (?f5)
 | .bytes b _=>?c (.byt b)
 | .float b _=>?c (.flt b)
 | ?aS=>?c ?bW
 | ?a7 n=>?c (.ty n)
 | _=>none
def RelV.abs{x:V}[?aO](r:?c7):Bl5 u=?bH:=by
 cases x with
 | non=>cases r;rfl
 | bl _=>cases r;rfl
 | int _=>ext fS;rfl
 | str _=>ext fS;rfl
 | byt _=>ext fS;rfl
 | flt _=>ext fS;rfl
 | ref _=>cases r;rfl
 | ty _=>cases r;rfl
def RelV.inj{x y:V}[?aO](r:?c7)(q:?lY):x=y:=qb9 (r.abs.symm.trans q.abs)
def Vals.inj:∀[?nK][?U],?bG->?N ys us->xs=ys
 | _,_,_,?u,?u=>rfl
 | _,_,_,?hS,?F r' t'=>by rw[?nW,Vals.inj t t']
section
variable{X:Cx}[?z][?X][?nK]
def SqL.of[?H](h:H a=?C7):?e0:=?i (?i h)
def SqT.of[?H](h:H a=?t5):?e4:=?i (?i h)
def Bm.list[?e](h:?HB):∃its:?w,?iV/\PlainL ?y a ?I/\?fE:=by
 rcases h with h|⟨o,its,n,hk,hc,hd,hs,hz,r⟩
 . let ?rG:=?MH;exact#[its,r,#[_,n,e,rfl,rfl,rfl],z]
 . apply#[?wR,r,#[o,n,?K1,hc,hd,?PY],?_];ext W5
def Bm.tuple[?e][?DI]:∃its:?w,?iV/\IsTup ?y a ?I/\?fE:=by
 rcases h with h|⟨o,its,n,hk,hc,_,hs,hz,r⟩
 . let#[z,its,r,p]:=?MH;exact#[its,r,p.tup,z]
 . apply#[?wR,r,#[o,?K1,hc,n,?PY],?_];ext W5
def Bm.list_inj[?e](h:?HB)(h':?JV):xs=ys:=by
 let#[its,r,#[o,n,e,_,_,d],_]:=?b9 h;let#[?eY,r',#[o',n',e',_,_,d'],_]:=?b9 h';ext VC
 subst this;exact ?nW
def Bm.tuple_inj[?e][?DI](h':SqT X.K H a ys):xs=ys:=by
 let#[its,r,#[o,e,_,n,d],_]:=?eH h;let#[?eY,r',#[o',e',_,n',d'],_]:=?eH h';ext VC
 subst this;exact ?nW
universe e9
noncomputable abbrev Cx.wish(X:Cx)[?n9]:Cx:={ X with xe:=E }
noncomputable abbrev Cx.nox(X:Cx):Cx:=X.wish ?gN
def Cx.Ok.wish{X:Cx}(ok:X.Ok)[?n9]:?S4 :=
 ?SD
def Cx.Ok.unwish{X:Cx}[?T](ok:?S4):X.Ok :=
 ?SD
section
variable{X:Cx}[?z][?T]
def Bm.wish[?e][?n9]:?LK:=#[I.ok.wish E,?hZ,?c5,?BN,?pV,?eI,?dO,?d5,?i4,?b7,?sM]
def Bm.unwish(I:?LK):?D:=#[I.ok.unwish,?hZ,?c5,?BN,?pV,?eI,?dO,?d5,?i4,?b7,?sM]
def SP.unwish{D:Ends}{f:Flow}{s':Shared}(h:SP (X.wish E) Ae D f s'):SP X Ae D f s':=by
 cases f with
 | next=>ext CN
 | brk=>ext CN
 | cont=>ext CN
 | ret u=>let#[v,σ',H',I,r,q]:=h;exact#[v,σ',H',?JU,r,q]
def HC.nox{st:?f7}{t:TS}(h:HC X.nox st t):HC X st t:=λAe s σ H D I hw =>
 qn9 (h Ae s σ H D (I.wish _) hw) (λ_ _ q=>q.unwish) λ_ _ z=>?dW z
universe e9
section
variable{X:Cx}{st:Stmt}{rest:?f7}{t u:TS}[?cN]{te:TE}[?W]
abbrev Am9:TS:=λD σ H=>?c3
abbrev Aq(t u:TS):TS:=λD σ H=>t { D with nx:=u D } σ H
def Bv:HC X [] Am9:=λ_ _ σ H _ I h=>qw9 ?I0
def Ag(h1:?P4)(h2:HC X rest u):HC X (st::rest) (Aq t u):=by
 intro Ae s σ H D I h;apply wpAny_execs_cons (D9 (h1 Ae s σ H { D with nx:=u D } I h) λf s1 q=>?_);cases f with
 | next =>
   let#[σ',H',I',q]:=q;exact h2 Ae s1 σ' H' D I' q
 | ret v=>exact q
 | brk=>exact q
 | cont=>exact q
def Am(h1:?P4):HC X [st] t:=by
 intro Ae s σ H D I h;apply wpAny_execs_cons (D9 (h1 Ae s σ H D I h) λf s1 q=>?_);cases f with
 | next=>exact qw9 q
 | ret v=>exact q
 | brk=>exact q
 | cont=>exact q
def Bm.quiet[?z][?e]:interactive ?g=false:=by simp[interactive,I.ok.kind]
abbrev An2(te:TE):TS:=λD σ H=>te σ H λ_ H1=>?IW
def B8[?hN](hs:?lS e ?a9 ?kW ?g=?kF:=by rfl):PS X (.Expr e pos) (An2 te):=by
 ext hK;exact wpAny_Expr_any (D9 ?gK λv s1 ?iI=>#[σ,H1,I1,q1]) I.quiet hs
abbrev A87(te:TE):TS:=λD σ H=>te σ H D.rt
def Be[?hN]:PS X (.Return (?c e) pos) (A87 te):=by
 ext hK;exact wpAny_Return_some (D9 ?gK λv s1 ?iI=>#[x,σ,H1,I1,r1,q1])
abbrev tT(c:TT)(t u:TS):TS:=λD σ H=>c σ H λb H1=>if ?lN then t D σ H1 else u D σ H1
def Cl{c:Expr}{a b:?f7}{tc:TT}(hc:?LA)(ha:HC X a t)(hb:HC X b u):PS X (.If c a b pos) (tT tc t u):=by
 intro Ae s σ H D I h;apply wpAny_If (D9 (hc Ae s σ H _ I h) λd s1 _z=>?_);let#[H1,I1,q1]:=_z;cases d with
 | true=>exact ?Y8 ha D
 | false=>exact ?Y8 hb D
abbrev yT:TS:=?j6
def Tt:PS X st yT:=λ_ _ _ _ _ _ h=>h.elim
universe e9
noncomputable abbrev TG:=V->?a2N ?C
noncomputable abbrev tL:=?q->?a2N ?C
abbrev PG(X:Cx)(target:Expr)(t:TG):Prop :=
 ∀[?P] (v:V) [?dL] (Q:?C),?D->?d9->t v σ H Q →
   ?Y0 (?eQ target ?g u) (λ_ s'=>NP X Ae Q s')
abbrev PGs(X:Cx)(ts:?eW)(t:tL):Prop :=
 ∀[?P] [?dK] [?dI] (Q:?C),?D->?gX->t vs σ H Q →
   ?f ?k X.A (assignInOrder ((?sI ts ?g).map (·.2)) us) (λ_ s'=>?a0B Q) ?m s
noncomputable abbrev Af3:=V->V->V->?YC Hp (?a6)
abbrev Ay9(X:Cx)(t:Af3):Prop :=
 ∀[?P] (o i v:V) (ov iv u:Value) (Q:?a6),?D->?bU o ov->?bU i iv->?d9->t o i v H Q →
   ?Y0 (setItem ov iv u) (λ_ s'=>?EU)
section
variable{X:Cx}[?W]
abbrev Z6(i:Nat):TG:=λv σ H Q=>Q (σ.set i (?A)) H
def uJ[?fR][?tB][?hE]:?HU:=by
 intro Ae s σ H v u Q I r h;exact ?QW (EL I hN hi hx r (λs' I'=>#[_,H,I',h]) hf)
def Ap[?fR](hN:X.N.Nodup)[?WH][?hE]:?HU:=uJ hN hi hx hf
structure Az9[?dK][?D2]:Prop where
 mk::(left:?pN) (right:Q σ H)
abbrev Bk2:tL:=λvs σ H Q=>Az9 vs σ H Q
inductive sW(t:TG)(u:tL)[?dK][?D2]:Prop
 | mk:∀v r,(vs=v::r)->(t v σ H λσ' H'=>u r σ' H' Q)->?TA
abbrev Av8(t:TG)(u:tL):tL:=λvs σ H Q=>?TA
def Cn:PGs X [] Bk2:=by
 intro Ae s σ H vs us Q I r h;let#[e,h]:=h;subst e;cases r;exact assignInOrder_nil ?I0
def Bf[?cN][?a3]{t:TG}{u:tL}(h1:PG X e t)(h2:PGs X es u)
 (hs:(?sI ?b1 ?g).map (·.2)=?eQ e ?g::(?wS).map (·.2):=by rfl):PGs X ?b1 (Av8 t u):=by
 intro Ae s σ H vs us Q I r h;let#[v,vr,e1,h]:=h;subst e1;cases r with
 | cons r rr =>
   rw[hs];apply assignInOrder_cons (D9 (h1 Ae s σ H _ _ _ I r h) λ_ s1 _z=>?_);let#[σ1,H1,I1,q1]:=_z;exact h2 Ae s1 σ1 H1 _ _ Q I1 rr q1
inductive yG[?d](n:Nat)(t:tL)(v:V)[?D2]:Prop
 | mk:∀a xs,(?f9)->(?e4)->(xs.length=n)->(t xs σ H Q)->?NM
abbrev Av7[?d](n:Nat)(t:tL):TG:=λv σ H Q=>?NM
def ZD[?a3]{k:Nat}{t:tL}{n:Nat}[?bN](h:?NS)
 [?XE] (hst:?KA (·.1)=none:=by rfl):?a1N X.K:=by
 intro Ae s σ H v u Q I r hw;let#[a,xs,e1,hq,hl,hw]:=hw;subst e1;cases r;let#[its,rv,ht,hz]:=?g0;apply assign_Tuple_tuple ?dR ht (by simp[hn,←hl,rv.length]) hst λh' hx=>?_;have I1:?uN:=?m3 (t':=s.toks) λb o e=>hx b o (qe3 ?e3) e;exact h Ae _ σ H xs _ Q I1 (?JL) hw
abbrev Bk1(to ti:TE)(t:Af3):TG:=λv σ H Q=>to σ H λo H1=>ti σ H1 λi H2=>t o i v H2 λH3=>Q σ H3
def Kv{o i:Expr}{to ti:TE}{t:Af3}(ho:?PV)(hi:?ZP i ti)(hs:Ay9 X t)
 (ha:∀v,?eQ (?q3 o i pos) ?g v=(do
   let ov ←?m1 [v] (?h6)
   let iv ←?m1 [v,ov] (?a2S i)
   ?A9 pos
   ?m1 ?ST (setItem ov iv v)
   release ?ST []):=by intro _;rfl):PG X (?q3 o i pos) (Bk1 to ti t):=by
 intro Ae s σ H v u Q I r h;rw[ha];apply qa7 (qq3 (D9 (?YA ho h) λov s1 _z=>?_));ext dG;apply qa7 (qq3 (D9 (?Y8 hi _) λiv s2 _z=>?_));let ?oY:=_z;apply ?a0Z ?y1 (qq3 (D9 (hs Ae s2 σ H2 x y v ov iv u _ I2 r1 r2 r q2) λ_ s3 _z=>?_));let ?TR:=_z;exact wpAny_release #[σ,H3,I3,q3]
abbrev OY(te:TE)(g:TG):TS:=λD σ H=>te σ H λx H1=>g x σ H1 ?iC
def Ks{tg e:Expr}{te:TE}{g:TG}[?hN](hg:?T7)(hs:swapsWithSole [tg] e ?kW ?g=?kF:=by rfl)(hw:swappedStores [tg] e ?g=?aC ?a9:=by rfl)
 (h1:(?sI [tg] ?g).map (·.2)=[?eQ tg ?g]:=by rfl):PS X (?m5 [tg] e pos) (OY te g):=by
 ext hK;apply wpAny_Assign_stores (D9 ?gK ?gV) hs hw;ext dG;rw[h1];exact D9 (hg Ae s1 σ H1 x v _ I1 r1 q1) λ_ s2 q=>q
def PL[?fR][?cN]{te:TE}{pos':Pos}[?tB][?hN][?W1][?hE] :
 ?S7:=by
 ext hK;apply wpAny_Assign_Name (D9 ?gK ?gV) hs;let#[y,H1,I1,r1,q1]:=_z;exact EL I1 hN hi hx r1 (λs2 I2=>#[_,H1,I2,q1]) hf
def Av[?fR][?cN]{te:TE}{pos':Pos}(hN:X.N.Nodup)[?hN][?WH][?W1][?hE]:?S7:=PL hN hi hx he hs hf
universe e9
section
variable{X:Cx}[?W]
abbrev YS(c:TT)(tb:TS):TS:=λD σ H=>∃W:?p6,(∃m,?E0)/\∀m σ H,?E0 →
 c σ H λb H1=>if ?lN then ∃N:?C,(∀σ' H',?oQ->∃m',m'<m/\W m' σ' H')/\tb ?DQ σ H1 else ?IW
def Ts{c:Expr}{body:?f7}{tc:TT}{tb:TS}[?XB](hc:?LA)(hb:?L9):PS X (.While c ?h4 [] pos) (YS tc tb):=by
 intro Ae s σ H D I h;let#[W,#[m0,w0],turn]:=h;apply wpAny_While (codeAny_whileLoop (λn s'=>∃σ' H',Bm X Ae σ' H' s'/\W n σ' H') ?_ m0 #[σ,H,I,w0]);rintro n s1 ⟨σ1,H1,I1,w1⟩;apply qo1 hp (D9 (hc Ae s1 σ1 H1 _ I1 (turn n σ1 H1 w1)) λb s2 _z=>?_);let#[H2,I2,q2]:=_z;cases b with
 | true =>
   let#[N,hN,q2]:=q2;rw[if_pos rfl];apply qo1 hp (D9 (hb Ae s2 σ1 H2 _ I2 q2) λf s3 q3=>?_);cases f with
   | next =>
     ext VM
   | cont =>
     ext VM
   | brk=>exact q3
   | ret v=>exact q3
 | false =>
   rw[?G qe5];exact qw9 #[σ1,H2,I2,q2]
universe e9
structure It where
 go:?JK
 yld:Nat->Hp->?gT
 stop:?JK
abbrev Ml[?cK](H:Hp)(b:Addr):Prop :=
 ?Y/\?i8/\?q4/\(b∈X.ex\/?YB b)/\?PE
def Bm.fpOk[?uE]{σ:St}[?eE][?a5]{b:Addr}[?e](hb:?JD)(hn:?s1):?FA:=by
 apply#[hn,qn3 (qb7 I.lt hb),I.nofs hb,?r (qa5 I.sz hb),λx c e z=>?_,λp hp z=>?_]
 . let#[v,q]:=?rR;exact ?ZD q.lt (by rw[z];exact hb)
 . exact ?ZD (qc1 (?EY).1) (by rw[z];exact hb)
structure Xe[?cI][?d](tg:Expr)(J:It)[?u9](it:Addr)(tn:?p5):Prop where
 mem:it∈fp
 obj:∀i h,tn i h->∀b∈fp,?PC
 keep:∀i h h',tn i h->(∀b∈fp,∀o,?dU->?oI)->tn i h'
 item:∀(X:Cx),?FU->X.w=w->X.K=K->?rA->∀(i:Nat) [?P] [?n9],?D->(?uT)->?uX->?x6 →
  ?f ?g4 X.A (pyNext ?dD) (λr s1=>∃u,r=?L ∧
   ?f ?g4 X.A (?o1 tg ?dD u) (λ_ s2=>YP X Ae σ u (J.yld i H) (tn ?b4 ?t1) fp s2) E s1) E s
 done:∀(X:Cx),?FU->X.w=w->X.K=K->?rA->∀(i:Nat) [?P] [?n9],?D->(?uT)->?uX->?y8 →
  ?f ?g4 X.A (pyNext ?dD) (λr s1=>r=none/\?Y7 H s1) E s
 self:∀[?k7] (i:Nat) [?n2],?uX->Q ?dD s->?YH ?g4 (?wH ?dD)
noncomputable abbrev TI:=?a2N ?s3
abbrev PIE[?cK](σ:St)(tg:Expr)[?u6](itv:Value)(s2:Shared):Prop :=
 ∃(it:Addr) (fp:?a2) (tn:?p5) (J:It) (H':Hp),itv=?j it/\?HW/\?OZ/\tn 0 ?t1/\(?NP)/\R J H'
abbrev PI(X:Cx)(tg iter:Expr)(wi:TI):Prop :=
 ∀[?P] [?u6],?D->wi σ H R →
   ?Y0 (?a2S iter) (λv s1=>?f ?k X.A (?wH v) (PIE X Ae σ tg R) ?m s1)
def KU{M:Model}[?V][?T][?a5]{tg:Expr}{it:Addr}[?aO]{o:Obj}{n:String}{vs:?cR}[?nB](ho:?QU)(hc:o.cls=?a7 n)(hd:o.data=?jG vs)
 (hn:?Y4 n=false) (hQ:Q () s):?YH M (?o1 tg ?dD u):=by
 unfold letOwnedTupleGo
 cases tg<;>first
  | exact ?BQ
  | (cases u<;>first
      | exact ?BQ
      | (apply qa7 (wpAny_load ho ?_)
         rw[hc,hd];show ?f M A (if ?a35 (?Y4 n&&vs[0]?==?c (rawInt _)) then _ else _) Q E s;rw[?G (by intro h;rw[hn,Bool.false_and]at h;cases h)];exact ?BQ))
abbrev Itl[?d][?b0]:It :=
 #[?a0O ?e0,?a1U ?e0,?a19 ?e0]
abbrev Itt[?d][?b0]:It :=
 #[?a0O ?e4,?a1U ?e4,?a19 ?e4]
abbrev WD(lo:Int)(n:Nat):It:=#[λi _=>i<n,λi H x H'=>H'=H/\x=?l2,λi _=>n<=i]
def LO[?cG]{tg:Expr}(a it:Addr):?a10 ?qR (λi h=>?E2) where
 mem:=?aH
 obj:=λi h st b hb=>by
  ext tL
  ext VW
 keep:=?HY
 item:=by
  ext dE;ext VQ;ext hG;apply wpAny_pyNext_list_item st ?Z (x:=u) ?pU ?LO;ext V4;exact(?ZR #[rfl,?NT])
 done:=by
  ext dE;ext WT;ext hG;have hl:=rv.length;exact wpAny_pyNext_list_end ?dR st ?Z ?m4 ?AH
 self:=?a01 wpAny_pyIter_listiter
def HH[?cG]{tg:Expr}(a it:Addr):?a10 ?pI (λi h=>h.IsTupleIter it a i) where
 mem:=?aH
 obj:=λi h st b hb=>by
  ext tL
  ext VW
 keep:=?HY
 item:=by
  ext dE;let ?LH:=hg;let ?hT:=?g0;let ?iE:=?hV hx;ext hG;apply wpAny_pyNext_tuple_item st (?a1K ?BB) (x:=u) ?pU ?LO;ext V4;exact(?ZR #[rfl,?a30 ?JS])
 done:=by
  ext dE;let ?MG:=hg;let ?hT:=?g0;ext hG;have hl:=rv.length;exact wpAny_pyNext_tuple_end ?dR st (?a1K ?BB) ?m4 ?AH
 self:=?a01 wpAny_pyIter_tupleiter
def HJ[?cG]{tg:Expr}(it:Addr)(lo:Int)(n:Nat):?a10 (?iQ) (λi h=>?H3 h it (lo+?xP*1) (?eZ-?xP) 1) where
 mem:=?aH
 obj:=λi h st b hb=>by
  ext tL
  subst e
  exact#[_,st,λv z=>by
   have z':?AI:=z;cases z']
 keep:=λi h h' st k=>k it ?K _ st
 item:=by
  ext dE;ext hG;have W:=Walks.range (prog:=X.prog) (w:=X.w) ?dR it lo 1 n;apply W.item i s _ _ hg st λv h' tk hv st' kk=>?_;let ?bY:=hv;have I1:?IL:=?oR (λb o hb e=>kk b o (?j1) e) f0 f1 f3 f4 f5;apply#[_,rfl,KU (s:=?R4) (n:="range_iterator") st' rfl rfl ?d3 #[?l2,H,I1,#[t,?_],?EE,st',?oD]];rw[qk5]
 done:=by
  ext dE;ext hG;exact wpAny_pyNext_range_end ?dR st (by have:n<=i:=hg;omega) ?AH
 self:=?a01 wpAny_pyIter_rangeiter
section
variable{X:Cx}{tg:Expr}
inductive sU[?d][?u6](x:V)(H1:Hp):Prop
 | mk:∀a,?jA->?a1J ?qR ?GY
abbrev xJ[?d](tl:TE):TI:=?a2G ?GY
inductive yF[?d][?u6](x:V)(H1:Hp):Prop
 | mk:∀a,?jA->((∃xs,SqT K H1 a xs))->(R ?pI H1)->?ET
abbrev At1[?d](tl:TE):TI:=?a2G ?ET
def uI{l:Expr}{tl:TE}[?uB]:?a0V xJ X.K:=by
 ext VV;ext dG;let ?K5:=q1;subst e;cases r1;let ?hT:=?s4 hq;apply qr1 ?Z ?_;apply(?a0Q LO);ext WY
 ext CJ
def zD{l:Expr}{tl:TE}[?uB]:?a0V At1 X.K:=by
 ext VV;ext dG;let ?K5:=q1;subst e;cases r1;let ?hT:=I1.tuple hq;apply qo0 (?a1K s1.heap.IsTuple) ?_;apply(?a0Q HH);ext WY
 ext CJ
def FA[?z]{R:?s3}[?T]{lo hi:Int}{t u v:Tok}{tk:Nat}[?e](h1:-(?c2)<=lo)(h2:lo<?c2)(h3:-(?c2)<=hi)(h4:hi<?c2)
 (q:R (WD lo ?sY) H):?f ?k X.A (?wH ?iD) (PIE X Ae σ tg R) E ?OO:=by
 apply wpAny_pyIter_range (IsRange.new ..) (small_one h1 h2 h3 h4) ?_;have I1:?Y7 H ?OO:=?m3 ?qV
 apply#[?AF,[?AF],_,_,H,rfl,
  ?wC (t':=tk) ?qV,HJ _ lo ?sY,?_,?h8,q]
 . have e1:?UV=lo:=?aH
   have e2:((?sY:Nat):Int)-?C6=Builtin.Range.rangeSize lo hi 1:=by rw[rangeSize_one];split<;>omega
   show ?H3 _ _ (?UV) (((?sY:Nat):Int)-?C6) 1;rw[e1,e2];exact ?g2
 . have e:b=?AF:=?j1
   ext CJ
inductive SS[?tK]:Prop
 | mk:∀j:Int,(vs=[?gP])->(-(?c2)<=j)->(j<?c2)->(R (WD 0 j.toNat) H1)->?KL
abbrev At3(ta:TA):TI:=?YO ?KL
inductive sS[?tK]:Prop
 | mk:∀i j:Int,(vs=?zC)->((-(?c2)<=i/\i<?c2/\-(?c2)<=j/\j<?c2))->(R (WD i (j-i).toNat) H1)->?PD
abbrev At2(ta:TA):TI:=?YO ?PD
def Cj{a:Expr}[?WK](ha:?KV)[?WR]:PI X tg (?Z3 ?mC [a]) (At3 ta):=by
 intro Ae s σ H R I h;apply Call_ (L8 I hg hm boot_range (qh1 (D9 (ha pos Ae s σ H _ I h) λus s1 _z=>?_) hs rfl));let#[vs,H1,I1,r1,q1]:=_z;let#[j,e,q1,q2,q]:=q1;subst e;cases r1 with
 | cons r rr =>
   cases rr;ext fS;exact call_range_1 (FA I1 O9m O9m q1 q2 (by simpa using q))
def Ve{a b:Expr}[?WK](ha:?GI)[?VA] :
 PI X tg (?Z3 ?mC ?pO) (At2 ta):=by
 intro Ae s σ H R I h;apply Call_ (L8 I hg hm boot_range (qh1 (D9 (ha pos Ae s σ H _ I h) λus s1 #[vs,H1,I1,r1,q1]=>?_) (by rw[hs,hs2]) (by rw[hs2];rfl)));let#[i,j,e,#[q1,q2,q3,q4],q]:=q1;subst e;cases r1 with
 | cons r rr =>
   cases rr with
   | cons r' rr =>
     cases rr;ext fS;let ?A2:=r';exact call_range_2 (FA I1 q1 q2 q3 q4 q)
abbrev A90(wi:TI)(g:TG)(tb:TS):TS:=λD σ H=>wi σ H λJ H1=>∃W:?eS,(∃m,W 0 m σ H1)/\∀i m σ H,?f0 →
 (?y8/\?c3)\/(?x6/\∃N:?C,?fB/\∀x H',?PJ->?eX)
abbrev Y1[?u9][?bS]:Bi:=fp.filterMap λb=>(?p9).map λo=>?qW
def N7[?dJ][?aT][?k5](hb:b∈fp)(e:?dU):?qW∈Y1 fp h:=List.mem_filterMap.mpr #[b,hb,by rw[e];rfl]
def mJ[?dJ][?aT]{p:?L5}(hp:p∈Y1 fp h):p.1∈fp/\?d7 p.1=?c p.2:=by
 let#[b,hb,e]:=List.mem_filterMap.mp hp;cases q:h.get? b with
 | none=>rw[q]at e;cases e
 | some o =>
   rw[q]at e;have e':?qW=p:=qb9 e;subst e';exact#[hb,q]
def Bm.pinned[?z][?dJ][?e][?hJ](ho:?LN):Bm X (Ae++Y1 fp ?y) σ H s :=
 ?LE λp hp=>?RG (λz=>?i4 p (qh3 _ z)) λz=>by
  let#[hb,e]:=mJ z;let#[f0,f1,f2,_]:=hf p.1 hb;let#[o,e',d]:=ho p.1 hb;rw[e]at e';cases e';exact#[e,f0,f1,f2,d]
def Bm.unpinned{Ae pl:Bi}[?bO][?a5](I:Bm X (Ae++pl) σ H s):?D:=?LE λp hp=>?i4 p (qh3 _ (?EN _ hp))
def C4{iter:Expr}{body:?f7}{wi:TI}{g:TG}{tb:TS}[?W][?XB][?bN](hi:?KE)(hg:?T7)(hb:?L9)
 [?CI]:PS X (.For tg iter ?h4 [] pos) (A90 wi g tb):=by
 ext hK;apply wpAny_For (?Y9 h) hs;let#[it,fp,tn,J,H2,e,I2,T,st2,f2,W,?PZ,turn]:=h2;subst e;have HR:∀{H':Hp},?iF->?NP:=λhn b hb=>#[hn b hb,(f2 b hb).2]
 apply codeAny_forLoop_any (λn s'=>∃i σ' H',?F2/\?UH/\?iF/\W i n σ' H') ?_ m0 #[0,σ,H2,I2,st2,λb hb=>(f2 b hb).1,w0];rintro n s3 ⟨i,σ3,H3,I3,st3,tG,w3⟩;rcases turn i n σ3 H3 w3 with⟨stop,qn⟩|⟨go,N,hN,step⟩
 . apply qo1 hp (D9 (T.done X rfl rfl rfl hc i Ae s3 σ3 H3 ?m I3 ?t2 st3 stop) ?qG);let ?ND:=_z;subst hr;exact qw9 #[σ3,H3,I4,qn]
 . apply qo1 hp (D9 (T.item X rfl rfl rfl hc i Ae s3 σ3 H3 ?m I3 ?t2 st3 go) ?qG);let ?UK:=_z;subst hr;apply qo1 hp (D9 h4 ?KB);ext VP;apply qo1 hp (D9 (hg _ s5 σ3 H5 x u _ I5' r5 (step x H5 y5)) λ_ s6 _z=>?_);let#[σ6,H6,I6,q6]:=_z;apply qo1 hp (D9 (hb _ s6 σ6 H6 _ I6 q6) λf s7 q7=>?_)
   have again:∀{σ7:St}{H7:Hp},Bm X (Ae++?NU) σ7 H7 s7->N σ7 H7->∃m,m<n/\∃i σ' H',Bm X Ae σ' H' s7/\?KQ/\?iF/\W i m σ' H':=λ{σ7 H7} I7 n7=>by
    let ?DU:=hN σ7 H7 n7;apply#[m',hm,i+1,σ7,H7,?r7,?SS,?h8,w7];ext VK
   cases f with
   | next=>let ?QI:=q7;exact ?UI
   | cont=>let ?QI:=q7;exact ?UI
   | brk=>let#[σ7,H7,I7,q7]:=q7;exact#[σ7,H7,?r7,q7]
   | ret v=>let#[x7,σ7,H7,I7,r7,q7]:=q7;exact#[x7,σ7,H7,?r7,r7,q7]
universe e9
def for_list[?fN][?n1][?WV]
 [?V5] :
 ∃W:?eS,?g3/\∀i m σ H,?f0 →
   ?a2Z ?o8 (?XZ ?o8 ?o8):=by
 ext CE;ext CX;have q:=?TC;ext jY
 . ext CB;ext WM
 . ext jZ
   ext WZ
def vK[?fN][?n1](hl:?ZL ?eT ?e4)
 [?V5] :
 ∃W:?eS,?g3/\∀i m σ H,?f0 →
   ?a2Z ?p4 (?XZ ?p4 ?p4):=by
 ext CE;ext CX;have q:=?TC;ext jY
 . ext CB;ext WM
 . ext jZ
   ext WZ
def Eh{lo:Int}{n:Nat}[?n1]
 (hs:∀i σ H,i<n->?bV->g (?l2) σ H ?p7) (hd:?GD) :
 ∃W:?eS,?g3/\∀i m σ H,?f0 →
   ?a2Z ?iQ (?XZ ?iQ ?iQ):=by
 ext VT;ext CX;by_cases hlt:i<n
 . apply ?a1C hlt ?S9;let ?pP:=y;subst e y;exact hs i σ _ hlt p
 . have e:i=n:=O9m
   subst e;exact ?i #[?e6,?KK]
noncomputable abbrev R2:=V->?lR
abbrev Rk(X:Cx)(f:?JJ)(r:R2):Prop :=
 ∀[?P] (x y:V) (v u:Value) (Q:VK),?D->?e2->?lY->?GW →
   ?Y0 ?v0 ?bK
abbrev UnR(X:Cx)(f:?vQ)(r:?lR):Prop :=
 ∀[?P] (x:V) (v:Value) (Q:VK),?D->?e2->r x H Q →
   ?Y0 (f v) ?bK
abbrev E4(X:Cx)(f:Value)(r:?cQ):Prop :=
 ∀[?P] [?a4] [?dI] (Q:VK),?D->?bG->?KD →
   ?Y0 (call f us) ?bK
abbrev tOp(r:R2)(ta tb:TE):TE:=λσ H Q=>ta σ H λx H1=>tb σ H1 λy H2=>r x y H2 Q
abbrev tUn(r:?lR)(ta:TE):TE:=λσ H Q=>ta σ H λx H1=>r x H1 Q
inductive IrI(C:?AJ)[?u8][?cH]:Prop
 | mk:∀i j,?nT->(y=?gP)->(C i j)->?Q0->?IN
abbrev rI(C:?AJ)[?u8]:R2:=?Z4 ?IN
inductive Az8[?u8][?cH]:Prop
 | mk:∀i j,?nT->(y=?gP)->?Q0->?GH
abbrev YZ[?u8]:R2:=?Z4 ?GH
inductive IrU(g:?AP)(x:V)[?cL]:Prop
 | mk:∀i,?nT->(Q (g i) H)->?LC
abbrev rU(g:?AP):?lR:=λx H Q=>?LC
section
variable[?XT][?W]
def Ae9[?hI]{Ae:Bi}[?a5][?bO]{R:V->?gT}[?e]
 (h:ta σ H λx H1=>tb σ H1 λy H2=>?RP) [?eA][?tT]
 (hf:∀v u s2 x y H2,?Y7 H2 s2->?e2->?lY->?RP->?f ?k X.A ?v0 Q ?m s2) :
 ?Y0 (?MD) (λv s₁=>?f ?k X.A (?KJ) (λu s₂=>?f ?k X.A ?v0 Q ?m s₂) ?m ?f2):=by
 apply ?H4;ext dG;apply D9 (?Y8 hb _) λu s2 _z=>?_;let ?oY:=_z;exact hf v u s2 x y H2 I2 r1 r2 q2
def Bk{op:Operator}{r:R2}(ho:Rk X (?c8 op) r)[?hI]:?ZP (.BinOp a op b pos) ?rF:=by
 ext Q;exact wpAny_BinOp (?YM u)
def My{op:UnaryOp}{r:?lR}(ho:UnR X (unaryOp op) r)[?uA]:?ZP (?uV op a pos) (tUn r ta):=by
 ext Q;exact ?EL (D9 ?mH λv s1 ?iI=>ho Ae s1 σ H1 x v Q I1 r1 q1)
def opI[?tT]{C:?AJ}{g:?QJ}
 (rule:∀[?DG] [?n2],C i j->?MQ) :
 Rk X f (rI C ?TF):=by
 ext e9;let#[i,j,rfl,rfl,hc,q]:=h;ext hM;ext o;exact rule i j t t' s _ _ hc ?JQ
def Aq4[?tT]{g:?QJ}
 (rule:∀[?DG] [?n2],?MQ) :
 Rk X f (YZ ?TF):=by
 ext e9;let ?GS:=h;ext hM;ext o;exact rule i j t t' s _ _ ?JQ
def zJ[?tT]{g:Int->?U4}
 (rule:∀[?DG] [?n2],Q (?cD ?g8) s->?NY) :
 ?ZI f ?g8:=by
 ext e9;let ?GS:=h;ext hM;ext o;exact rule i j t t' s _ _ (?a2F ?g8 I)
abbrev Bs0(i j:Int):Prop:=0<j/\?RX
abbrev Br9(i j:Int):Prop:=0<=j/\j<=1000000/\i.natAbs<?fZ
abbrev Ag7(i j:Int):Prop:=(-(?fZ)<i/\i<?fZ)\/(-(?fZ)<j/\j<?fZ)
def Ag7.ok{i j:Int}(h:Ag7 i j):?BW:=by
 rcases h with⟨h1,h2⟩|⟨h1,h2⟩
 . exact .of_left (intBits_le_64 h1 h2)
 . exact .of_right (intBits_le_64 h1 h2)
def Cc:?a23 (YZ λi j=>?h (i+j)):=?YT Aq4 add_int
def N4:Rk X (?c8 .Sub) (YZ λi j=>?h (i-j)):=?YT Aq4 sub_int
def cO:?a38 Bs0 (i / j):=opI λi j _ _ _ _ _ hc q=>by
 have h1:?lO<j:=hc.1;have h2:?RX:=hc.2;exact ?NN O9m (by rw[qh5 i ?aF];exact q) (?i (PyProof.noPylong_small O9m))
def Gu:Rk X (?c8 .Mod) (?a0D (λ_ j=>0<j) (i%j)):=opI λi j _ _ _ _ _ hc q=>by
 have h1:?lO<j:=hc;exact mod_int' O9m (by rw[Int.fmod_eq_emod_of_nonneg i ?aF];exact q)
def zG:Rk X (?c8 .Pow) (?a0D Br9 (i ^ j.toNat)):=opI λ_ _ _ _ _ _ _ hc q=>pow_int_small hc.1 hc.2.1 hc.2.2 q
def unI{f:?vQ}{g:?FS}
 (rule:∀(i:Int) (t:Tok) [?n2],Q (?h (g i) ?mY) ?j3->?a25 (f ?qQ)) :
 UnR X f (rU λi=>?h (g i)):=by
 intro Ae s σ H x v Q I rx h;let ?IX:=h;ext hM;exact rule i t s _ _ #[?h (g i),H,?g6,?bX,q]
def Hu:UnR X (unaryOp .USub) (rU λi=>?h (-i)):=unI λ_ _ _ _ _ q=>neg_int q
universe e9
abbrev scal:V->V->?dB
 | ?t,?t=>true | ?t,?e8=>true | ?e8,?t=>true | ?t,?fC=>true | ?fC,?t=>true | ?t,?c1=>true | ?c1,?t=>true
 | ?e8,?e8=>true | ?fC,?fC=>true | ?c1,?c1=>true | .byt _,.byt _=>true
 | ?e8,?c1=>true | ?c1,?e8=>true | ?fC,?c1=>true | ?c1,?fC=>true
 | _,_=>false
structure Br4[?cH]:Prop where
 mk::(left:?RK) (right:?YK (?JA))
abbrev rEq:R2:=λx y H Q=>Br4 x y H Q
structure Br3[?cH]:Prop where
 mk::(left:?RK) (right:?YK (! ?JA))
abbrev rNe:R2:=λx y H Q=>Br3 x y H Q
def kZ{i j:Int}:?s (?a8 i=?a8 j)=?uU:=by
 rw[qn7];simp
def rO{i j:Bool}:?s (V.bl i=V.bl j)=?uU:=by
 rw[qn7];simp
def KY{i j:Str}:?s (V.str i=V.str j)=?uU:=by
 rw[qn7];simp
def KZ{i j:?SA}:?s (V.byt i=V.byt j)=(i.toList==j.toList):=by
 rw[qn7];cases i;cases j;simp
section
variable[?XT][?W]
def Cq[?z]{Q:VK}{k k':Bool}[?e](q:Q (?pE) H)(e:k=k'):?YW (?cD k') s:=by
 subst e;exact#[?pE,H,I,rfl,q]
def Dy:?a2I rEq:=by
 intro Ae s σ H x y v u Q I rx ry h;let#[hs,q]:=h;cases x with
 | non =>
   cases rx;cases y with
   | non=>cases ry;exact PySem.EqNone.eq_none_none ?J
   | bl j=>cases ry;exact PySem.EqNone.eq_none_bool ?J
   | int j=>ext o;exact PySem.EqNone.eq_none_int ?J
   | str j=>ext o;exact PySem.EqNone.eq_none_str ?J
   | _=>ext dF
 | bl i =>
   cases rx;cases y with
   | non=>cases ry;exact PySem.EqNone.eq_bool_none ?J
   | bl j=>cases ry;exact eq_bool (Cq I q rO)
   | str j=>ext o;exact PySem.EqMixed.eq_bool_str ?J
   | _=>ext dF
 | int i =>
   let#[t,rfl]:=rx;cases y with
   | non=>cases ry;exact PySem.EqNone.eq_int_none ?J
   | int j=>ext o;exact eq_int (Cq I q kZ)
   | str j=>ext o;exact PySem.EqMixed.eq_int_str ?J
   | _=>ext dF
 | str i =>
   let#[t,rfl]:=rx;cases y with
   | non=>cases ry;exact PySem.EqNone.eq_str_none ?J
   | bl j=>cases ry;exact PySem.EqMixed.eq_str_bool ?J
   | int j=>ext o;exact PySem.EqMixed.eq_str_int ?J
   | str j=>ext o;exact eq_str (Cq I q KY)
   | _=>ext dF
 | byt i =>
   let#[t,rfl]:=rx;cases y with
   | byt j=>ext o;exact PySem.W.eq_bytes (Cq I q KZ)
   | _=>ext dF
 | _=>ext WD
def Jb:?a1A rNe:=by
 intro Ae s σ H x y v u Q I rx ry h;let#[hs,q]:=h;cases x with
 | non =>
   cases rx;cases y with
   | non=>cases ry;exact PySem.EqNone.ne_none_none ?J
   | bl j=>cases ry;exact PySem.EqNone.ne_none_bool ?J
   | int j=>ext o;exact PySem.EqNone.ne_none_int ?J
   | str j=>ext o;exact PySem.EqNone.ne_none_str ?J
   | _=>ext dF
 | bl i =>
   cases rx;cases y with
   | non=>cases ry;exact PySem.EqNone.ne_bool_none ?J
   | bl j=>cases ry;exact ?ZS ne_bool rO
   | str j=>ext o;exact PySem.EqMixed.ne_bool_str ?J
   | _=>ext dF
 | int i =>
   let#[t,rfl]:=rx;cases y with
   | non=>cases ry;exact PySem.EqNone.ne_int_none ?J
   | int j=>ext o;exact ?ZS ne_int kZ
   | str j=>ext o;exact PySem.EqMixed.ne_int_str ?J
   | _=>ext dF
 | str i =>
   let#[t,rfl]:=rx;cases y with
   | non=>cases ry;exact PySem.EqNone.ne_str_none ?J
   | bl j=>cases ry;exact PySem.EqMixed.ne_str_bool ?J
   | int j=>ext o;exact PySem.EqMixed.ne_str_int ?J
   | str j=>ext o;exact ?ZS ne_str KY
   | _=>ext dF
 | byt i =>
   let#[t,rfl]:=rx;cases y with
   | byt j=>ext o;exact ?ZS PySem.W.ne_bytes KZ
   | _=>ext dF
 | _=>ext WD
def AV:?ZI (?aQ .Lt) (?s (i<j)):=?YT zJ lt_int
def pW:?ZI (?aQ .LtE) (?s (i<=j)):=?YT zJ le_int
def KI:?ZI (?aQ .Gt) (?s (j<i)):=?YT zJ gt_int
def ZH:Rk X (?aQ .Is) (λx y H Q=>y=?t/\?YK (?s (x=?t))):=by
 ext e9;let#[rfl,q]:=h;cases ry;apply is_none_gen (Cq I q ?_)
 cases x<;>first
  | (cases rx;rfl)
  | (ext hM;rfl)
def Bj(b:Expr){op:CmpOp}(h:?MS:=by decide)(h2:?TD:=by decide):?AW:=by
 ext VN
 ext VJ
 cases b<;>simp[behindInMarks,e1,e2]
def D8{op:CmpOp}{r:R2}[?D6][?hI][?XX]:?ZP (?BX a [op] [b] pos) ?rF:=by
 ext Q;exact wpAny_Compare1 (?YM u) hm
inductive sM[?k1](x:V)(H':Hp):Prop
 | mk:∀k,(x=?pE)->(Q k H')->?IK
abbrev Am6(t:TE):TT:=λσ H Q=>t σ H λx H'=>?IK
def Bo{op:CmpOp}{r:R2}[?D6][?hI][?XX]:PT X (?BX a [op] [b] pos) (Am6 ?rF):=by
 ext Q
 apply wpAny_isTrue_Compare1 (D9 ?mH λv s1 ?iI=>D9 (?Y8 hb _) λu s2 ?oY =>
  D9 (?a0U _) λc s3 ?IY=>?_) hm
 subst e;cases r3;exact ql7 ?TR
inductive lI(r':R2)(tc:TE)(σ:St)(Q:VK)(y:V)(z:V)(H3:Hp):Prop
 | mk:∀k,(z=?pE)->((if ?a35 k then tc σ H3 λw' H4=>r' y w' H4 Q else Q (?pA) H3))->?QF
abbrev yV(r r':R2)(ta tb tc:TE):TE:=λσ H Q=>ta σ H λx H1=>tb σ H1 λy H2=>r x y H2 λz H3=>?QF
def pS{op op':CmpOp}{r r':R2}[?D6](ho':Rk X (?aQ op') r')[?hI](hc:?ZP c tc)
 (hm:lastMarks ?FG [b,c]=false:=by with_unfolding_all rfl):?ZP (?BX a ?FG [b,c] pos) (yV r r' ta tb tc):=by
 ext Q
 apply Compare_chain (D9 ?mH λv s1 ?iI=>chain_link (D9 (?Y8 hb _) λu s2 ?oY =>
  D9 (?a0U _) λd s3 ?IY=>?_)) hm
 subst e;cases r3;apply ql7 ?_;cases k with
 | false=>exact ite_ff #[?pA,H3,I3,rfl,q3]
 | true=>exact ite_tt (chain_last (D9 (hc Ae s3 σ H3 _ I3 q3) λw' s4 #[z',H4,I4,r4,q4]=>ho' Ae s4 σ H4 y z' u w' Q I4 r2 r4 q4))
def cX:?SE<?gL:=by rw[sizeLine_eq];decide
def Tc{x:V}[?U](r:?NW):?FI:=by
 cases r with
 | cons r1 r2=>cases r2;exact#[_,rfl,r1]
def X0{x y:V}[?U](r:?N [x,y] us):∃u w',us=[u,w']/\?c7/\?bU y w':=by
 cases r with
 | cons r1 r2 =>
   cases r2 with
   | cons r3 r4=>cases r4;exact#[_,_,rfl,r1,r3]
def NV[?bN]:?ZX "max" (if j > i then j else i):=by
 ext fM;ext W4;apply max_two_ints ?dR ?E7
 by_cases hj:j > i
 . rw[?rQ,?rQ];exact ?bX
 . rw[?sD,?sD];exact ?bX
def nV[?bN]:?ZX "min" (if j<i then j else i):=by
 ext fM;ext W4;apply min_two_ints ?dR ?E7
 by_cases hj:j<i
 . rw[?rQ,?rQ];exact ?bX
 . rw[?sD,?sD];exact ?bX
universe e9
structure JN[?bS](x dx C:Addr)(mA:?c6):Prop where
 obj:?d7 x=?c (?o9 C dx)
 ns:?yT
 ne:?z0
def ML[?aT]{dx:Addr}[?DD](n:?yT):∃od,?d7 dx=?c od/\?UN:=by
 let#[o,es,ep,ho,hd,hk,_,hm]:=n;apply#[o,ho,λname=>?_];have e:=hm ?a0;unfold nsFind findBy at e;rw[←Array.find?_toList]at e;unfold PySem.W.lookIn;rw[hd];dsimp only;split
 . rename_i y q
   rw[q]at e;exact ?UJ
 . rename_i q
   rw[q]at e
   have a:?TG (·.refKey)=false:=by
    rw[List.any_eq_false];intro y hy;let#[z,t,hkey]:=hk y (Array.mem_toList_iff.mp hy);simp[DictEntry.refKey,hkey]
   have a':¬?TG (·.refKey)=true:=by rw[a];exact qe5
   rw[?G a'];exact ?UJ
def JN.look[?aT]{x dx C:Addr}[?DD](I:JN h x dx C mA):∃od,PySem.W.InstAt h x (?o9 C dx) C (?c od)/\?UN :=
 let #[od,ho,hl]:=ML I.ns
 #[od,#[I.obj,rfl,rfl,ho],hl]
section
variable[?jT][?T][?a5][?H]{x dx C f:Addr}[?DD]{name:Str}{v:Value}
def vI{expr:Bool}[?eA][?VZ][?XS]
 (ha:?KF=?kX) (hv:?y4=?A) (hv':?DK v=true) (h:Q v ?j3) :
 ?YH ?dN (?AQ ?hW ?a0 expr):=by
 let ?AG:=I.look;exact PySem.W.get_value X J (qw1 hg).1 (PySem.W.findObj_own hh ha rfl (by rw[hl,hv])) hv' h
def rB[?X2][?VZ]
 (hf:?KF=?qJ) (ht:?z8) (hv:?y4=none) (h:Q (?j f,[?i5]) s) :
 ?YH ?dN (?w9 ?hW ?a0 pl):=by
 let ?AG:=I.look;exact PySem.W.method_fn X J (qw1 hg).1 (qw1 hg).2 hf (qx6.mp ht) (by show(?R3).map (·.isSome)=?c ?cO;rw[hl,hv];rfl) h
def TY{ns:?E}[?nB](X:?l9)(I:?I7)
 (hs:?ZF K) (hp:?MV) (ht:?UC K C ?a0=?kX) [?XS]
 (hw:?wE mA ns) (hsz:?T9)
 (h:∀h',JN h' x dx C (λy=>if y=name then ?A else mA y)->?jF dx ?y h'->Q () { s with heap:=h',toks:=s.toks+2 }) :
 ?YH ?dN (setAttr ?hW ?a0 v):=by
 let ?AG:=I.look;apply PySem.W.set_plain X J hs (PySem.W.osa_open (s:=?j3) (r:=none) X J hp ht λb=>?_);let#[cd,hc,hd']:=PySem.W.any_some hh;have hx:?aY x=?c #[?sC,?c dx,.plain,#v[]]:=I.obj;apply ?a0Z qc9 (qa7 (wpAny_loadPart hx (qa7 (PySem.W.Looks.here (s:=?j3) (PySem.W.looks_clsIn X hc) ?_))));rw[hd'];apply qc9 (a:=?c dx) (?a0Z qc9 ?_);apply wpAny_nsSet1 (s:=?j3) I.ns λh' hn2 hs2=>?_;let#[oD,esD,epD,hoD,hdD,hcD]:=hn2.count (PySem.Within.cons ?a0 v hw);apply qa7 (wpAny_lookBehind hoD (by rw[hdD];exact pastItsLine_dict (qa5 hcD (by rw[qe4];omega))) ?_);exact qc9 (h _ #[(hs2.2 _ (?l4 I.ne)).trans I.obj,hn2,I.ne] hs2)
def QL{R:?vT}[?nH][?tW](X:?l9)(hm:?Q4)
 (hi:?ZV "__init__"=?qJ) (hf:PySem.W.typeIn K ?bM=?c (?a7 "function"))
 (h:?f6 ?dN (?a24 vs) (?kH ?bM #[?j ?b2::vs,kw]) (PySem.W.InitBack ?b2 R)
   ?E3) :
 ?f6 ?dN A (?kH ?bL #[vs,kw]) R s:=by
 let#[hh,g,d,t,os]:=s;exact PySem.W.make_core (PySem.W.makes_of X hm) (PySem.W.looks_findIn X hi) (λself=>PySem.W.bind_fn X self hf) ?dM h
universe e9
abbrev putF(f:Str)(v:V):?dC->?dC
 | []=>[(f,v)]
 | (g,x)::r=>if g=f then(g,v)::r else(g,x)::?TE
def Ar(f g:Str)(v:V):∀fs:?dC,(?yZ).lookup g=if g=f then ?A else ?iN g
 | []=>by
   show List.lookup g [(f,v)]=_;by_cases h:g=f
   . have hb:?a35 (g==f):=qx6.mpr h;simp only[List.lookup,hb,?S h]
   . have hb:?a0I g f:=ql4.mpr h;simp only[List.lookup,hb,?jJ]
 | ?sO=>by
   have ih:=Ar f g v r;ext CD
   . rw[?jD];by_cases h:g=k
     . have hb:?JN:=qx6.mpr h;simp only[List.lookup,hb,?S (h.trans hk)]
     . have hb:?TY:=ql4.mpr h;simp only[List.lookup,hb,?G (λe:g=f=>h (e.trans hk.symm))]
   . rw[?gH];by_cases h:g=k
     . have hb:?JN:=qx6.mpr h;simp only[List.lookup,hb,?G (λe:g=f=>hk (h.symm.trans e))]
     . have hb:?TY:=ql4.mpr h;simp only[List.lookup,hb];exact ih
def Vp(f:Str)(v:V):∀fs:?dC,f∈?NC (·.1)/\∀g,g∈?sL (·.1)->g∈?NC (·.1)
 | []=>#[?UB,λg h=>?gM]
 | ?sO=>by
   let#[i1,i2]:=Vp f v r;ext CD
   . rw[?jD];subst hk;exact#[?aH,λg h=>?v9]
   . rw[?gH];apply#[?_,λg h=>?_]
     . rw[qd3];exact qa9 _ i1
     . rw[qd3]at h ⊢;ext D3
       . exact qd4.mpr (?i e)
       . exact qa9 _ (i2 g e)
def Cb(f:Str)(v:V):∀fs:?dC,?P7<=fs.length+1
 | []=>?UB
 | ?sO=>by
   have ih:=Cb f v r;ext CD
   . rw[?jD,qe4,qe4];omega
   . rw[?gH,qe4,qe4];omega
def Ou.some_of{v:V}{o:?mK}(r:Ou (?A) o):∃u,o=?L/\?d9:=by
 cases o with
 | none=>exact ?EO
 | some u=>exact#[u,rfl,r]
def Ou.none_of{o:?mK}(r:Ou ?a9 o):o=none:=by
 cases o with
 | none=>rfl
 | some u=>exact ?EO
def mY{v:V}[?aO][?fU]:?DK u=true:=by
 cases v with
 | non=>cases (?Z5 ?q0);rfl
 | bl b=>cases (?Z5 ?qU);rfl
 | int i=>let ?i6:=(?Z5 ?GJ);cases e;rfl
 | str x=>let ?i6:=(?Z5 ?L7);cases e;rfl
 | byt b=>let ?i6:=(?Z5 ?QR);cases e;rfl
 | flt b=>let ?i6:=(?Z5 ?L1);cases e;rfl
 | ref a=>cases (?Z5 ?mE);rfl
 | ty n=>cases (show u=Value.type n from r);rfl
section
variable[?u3][?eE]{h h':Heap}{a C dx:Addr}{fs fs':?dC}
def dD(hok:?x4)(e:H a=?qO):∃mA,JN h a dx C mA/\(?y2)/\?wE mA (?sL (·.1))/\?MJ/\?S6:=by
 let#[d,z,ne,ob,mA,n,r,q]:=(show ?cA P w H h a (?zP) from hok a _ e)
 exact#[mA,#[ob,n,ne],r,q,z,d]
universe e9
structure Cls[?d](C:Addr):Prop where
 pg:?uO K C Str.empty=true
 hd:?HC
 po:?MV
 sa:?ZF K
def Cls.get[?H]{C:Addr}(c:Cls K C)(f:Str):?uO K C f=true:=c.pg
abbrev Do[?d](C:Addr)(f:Str):Prop:=?ZV f=?kX
def Do.taker[?H]{C:Addr}{f:Str}(n:?zR):?UC K C f=?kX:=by
 unfold PySem.W.takerIn;rw[show ?ZV f=?kX from n];rfl
structure sJ[?d][?nG](f:Addr):Prop where
 at_:?ZV m=?qJ
 fn:?z8
 kp:?lX
section
variable{X:Cx}[?z]{a C dx:Addr}{fs:?dC}{f:Str}{v:V}[?V][?T]
def IV{b:Bool}[?eA][?e][?CQ](n:?LX)(l:?iN f=?A)
 (h:∀u s',?Y7 H s'->?d9->Q u s'):?YH ?k (?AQ ?bW f b):=by
 let ?NL:=?BF;let ?iE:=Ou.some_of (v:=v) (o:=mA f) (by rw[←l];exact r f);exact vI ?aR O (c.get f) c.hd n hu (mY ru) (h u _ (?g6) ru)
def So{m:Str}{g:Addr}[?X2][?e][?CQ](k:?OE)(l:?vW)
 (h:Q (?j g,?c0) s):?YH ?k (?w9 ?bW m pl):=by
 let ?NL:=?BF;have hn:mA m=none:=Ou.none_of (by rw[←l];exact r m);exact rB ?aR O (c.get m) k.at_ k.fn hn h
def HW{y:V}[?aO][?nB][?e][?CQ](n:?LX)(hl:?PS)(ry:?lY)
 (h:∀s',?Y7 (upd H a (.ins C dx (?w1))) s'->?vP):?YH ?k (setAttr ?bW f u):=by
 let#[mA,O,r,wi,_,ho]:=?BF;have hz:(?sL (·.1)).length<=sizeLine:=by rw[qa2,sizeLine_eq];omega
 apply TY ?aR O c.sa c.po n.taker c.hd wi hz λh' O' sb=>h _ ?_;have hd:∃o,?h2 dx=?l:=let #[o,_,_,e',_]:=O'.ns;#[o,e']
 apply ?vL (x:=a) (e:=dx) (by rw[e];exact True.intro) (?r ho) (λb q hb z=>?SC z) hd ?_;apply#[by rw[Ak O.ne];exact ho,?_,O.ne,O'.obj,_,O'.ns,λg=>?_,λg hg=>?_]
 . have:=Cb f y fs;omega
 . show Ou ((?w1).lookup g) (if g=f then ?L else mA g);rw[Ar];by_cases q:g=f
   . rw[?S q,?S q];exact ry
   . rw[?G q,?G q];exact r g
 . by_cases q:g=f
   . rw[q];exact(?P6).1
   . apply(?P6).2 g (wi g λz=>hg ?_);show(if g=f then ?L else mA g)=none;rw[?G q];exact z
def Bm.made[?e]:Bm X Ae σ (upd (?YL ?v (.own ?b2)) ?b2 (?H5))
 ?E3:=by
 have e1:(?lG).get? ?v=?c ?y7:=qc4 ?y rfl
 have e2:(?G9).get? ?b2=?c (?wB):=by
  have:=qc4 (?lG) (o:=?wB) rfl
  rwa [qi4]at this
 have e3:(?lG).Ns ?v (?g5):=#[?y7,#v[],_,e1,rfl,(λe he=>?x he ?K),?T5]
 have I1:=?s7 (a:=s.heap.objs.size) (o:=.own ?b2) (h':=?lG) (t':=s.toks) (λb u q=>?kM) ?aU #[_,e1];apply ?wX (a:=?f8) (o:=?H5) (t':=s.toks) (λb u q=>?kM) (qm9 (qi4 _ _)) ?_;have ne:s.heap.objs.size≠?f8:=qe3 (?a1O _);apply#[by rw[Ak ne,Ab],?mJ,ne,e2,?g5,(Heap.Ns1.of_empty e3).at λo q=>?kM,λ_=>True.intro,λy hy=>?x rfl hy]
def vX{prog:Program}{w:World}{env:Env}[?cN]{f:Str}[?W][?a5][?eA](hb:?rV e f env (?A0)=?A0)
 (h:?f ?dN A (?A0) (λo s₁=>?f ?dN A (?AQ o f ?d8) Q E ?f2) E s):?YH ?dN (?aI (?aP e f pos) env) :=
 Attribute_any_ h (by rw[arm_eval_Attribute,hb])
universe e9
inductive ItFld[?d](f:Str)[?k2]:Prop
 | mk:∀a C dx fs v,?jA->(?x7)->(Cls K C)->(?zR)->(?iN f=?A)->(Q v H1)->?RL
abbrev An1[?d](ta:TE)(f:Str):TE:=?Y6 ta ?RL
inductive xZ[?d](f:Str)(D:Ends)(σ:St)(y:V)(x:V)(H2:Hp):Prop
 | mk:∀a C dx fs,?jA->(H2 a=?qO)->(Cls K C)->(?zR)->(?PS)->(?iC σ (upd H2 a (.ins C dx (?w1))))->?UL
abbrev Ao1[?d](ta tv:TE)(f:Str):TS:=λD σ H=>tv σ H λy H1=>ta σ H1 λx H2=>?UL
section
variable{X:Cx}{o e value:Expr}{f:Str}{pos pos' tpos:Pos}{ta tv:TE}
def zF(he:?KN)(hb:?rV e f ?g (?eU)=?eU):?ZP (?aP e f pos) (An1 X.K ta f):=by
 ext Q;apply vX hb (D9 ?gK ?oP);let(?a1Q v n):=_z;subst ex;obtain rfl:?mE:=rx;exact IV I1 ea c n l λu' s2 I2 ru=>#[v,H1,I2,ru,q]
def zC[?XR](hs:?a0G ?iU ?r4):?a0A X.K:=by
 ext hK;apply plainObj_wpAny_Assign_Attribute (D9 (?YA hv h) λu s1 #[y,H1,I1,ry,q]=>D9 (ha Ae s1 σ H1 _ I1 q) λov s2 _z=>?_) hs;let#[x,H2,I2,rx,a,C,dx,fs,ex,ea,c,n,l,q2]:=_z;subst ex;obtain rfl:ov=?f4 a:=rx;exact HW I2 ea c n l ry λs3 I3=>#[σ,_,I3,q2]
def WZ{pl:?r0}{m:Str}{apos:Pos}{args:?eW}{Ae:Bi}[?a5][?bO][?eA]{te:TE}[?hN][?e]
 (h:te σ H λx H1=>∃a C dx fs g,x=?aS/\?x7/\?yH/\?OE/\?vW ∧
   ∀s1,?Y7 H1 s1->?f ?k X.A (?oB pos (?j g) ?c0 (?h5 pos (?fF ?cW ?g)) ?qC) Q ?m s1)
 (ht:?KP=(do
   let ov ←?eU
   ?jB
   let ?iA ←?i3
   ?ZE (?fF ?cW ?g))) :
 ?Y0 (?KP) Q:=by
 apply ?FE;let(?a1Q g k):=_z;subst ex;obtain rfl:?mE:=rx;exact So I1 ea c k l (q s1 I1)
universe e9
section
variable{X:Cx}[?z][?V][?T][?eA]{c:Value}{b:Bool}
universe e9
structure Gi(k:Nat)[?k7]:Prop where
 hd:?F0
 dp:A.depth+3*k+5<recursionLimit
 un:A.units+16*k+200<cLine
 gd:A.guards=?c []
def Gi.mono{j k:Nat}[?V](r:?mQ)(h:j<=k):Gi j A:=#[r.hd,?UP,?DV,r.gd]
def Gi.deeper{k:Nat}[?V](r:?P9)(env:Env):Gi k (?oE env) :=
 #[r.hd,by have:=r.dp;show ?OM+3*k+5<_;omega,by have:=r.un;show A.units+3+16*k+200<_;omega,r.gd]
def iP[?V]{C:Addr}[?U][?tW]:(?kR).depth=?OM:=by
 ext V8
def fZ[?V]{C:Addr}[?U][?tW]:(?kR).guards=A.guards:=by
 ext V8
def iO[?V]{C:Addr}[?U][?tW]:(?kR).units=?NV:=by
 first | rfl | simp[Around.under,Code.cUnits,Code.frames,Code.isFrame]
def Gi.make{k:Nat}[?V](r:?P9)(C:Addr)[?dI](kw:?j8):Gi k (?kR) :=
 #[r.hd,by have:=r.dp;rw[iP];omega,by have:=r.un;rw[iO];omega,by rw[fZ];exact r.gd]
def Gi.depth{k:Nat}[?V](r:?mQ):A.depth<recursionLimit:=?UP
def Gi.units{k:Nat}[?V](r:?mQ):?a13 64:=?DV
def Gi.u8{k:Nat}[?V](h:?mQ):?a13 8:=by
 have:=h.units;omega
abbrev tS:TA:=?a1F []
abbrev WN(ta:TE)(tr:TA):TA:=λσ H Q=>ta σ H λx H1=>tr σ H1 λxs H2=>Q (x::xs) H2
section
variable{X:Cx}[?cN][?a3]{te:TE}{t:TA}[?W]
def Ac:PA X [] tS:=λ_ _ _ _ H Q I h=>Calls.spliced_nil #[[],H,I,?u,h]
def Aa(ha:?AM)(hr:?uW)[?CG]:PA X ?b1 (WN te t):=by
 intro pos Ae s σ H Q I h;rw[hs];show ?a08 (spliced (?P2::?vA));apply qq6 (D9 ?mH ?oP);ext dG;exact D9 (hr pos Ae s1 σ H1 _ I1 q1) λus s2 #[xs,H2,I2,r2,q2]=>#[x::xs,H2,I2,?F r1 r2,q2]
structure Az6(Q:VK)[?a4](H1:Hp):Prop where
 mk::(left:?fE) (right:?a2C ?qH)
abbrev Am5(t:TA):TE:=?a0X Az6
structure Az7(Q:VK)[?a4](H1:Hp):Prop where
 mk::(left:?fE) (right:?a2C ?kT)
abbrev An0(t:TA):TE:=?a0X Az7
def Fq{x1}(h:?uW):?ZP (?qA es x1 pos) (Am5 t):=by
 intro Ae s σ H Q I hq;apply ?YG wpAny_Tuple_spliced;ext W8;apply(?a1D ?qH);exact#[z,us,r,?N3]
def F7(h:?uW):?ZP (.List es pos) (An0 t):=by
 intro Ae s σ H Q I hq;apply ?YG wpAny_List_spliced;ext W8;apply(?a1D ?kT);exact#[z,us,0,r,?g2]
universe e9
noncomputable abbrev Sp:=?q->Hp->?YC VK XK
noncomputable abbrev sX:=?d1->Hp->Shared->XK->?gF
structure JQ[?cI][?d][?fL][?k7][?nF][?bR](H:Hp):Prop where
 frames:A.frames=?c ?aA
 mod:Mod K mg ?aG
 bs:∀b o,base.get? b=?l->?DM
 bsz:base.objs.size<=s.heap.objs.size
 funs:?o0 ?aG ?aA
 frf:∀b∈OI ?aA,?Y
 hok:Rl P w H ?y
 bare:?QB
abbrev CE[?nF][?cI](H:Hp)[?bR](Q:VK)[?dL][?cM]:Prop :=
 ∃v H',?AT/\?lD/\Un (OI ?aA) [] H H' ?y ?dZ/\Rl P w H' ?dZ/\?d9/\?lT
abbrev CR(CX:sX)[?nF][?cI](H:Hp)[?bR](Q:VK)(E:XK)(r:Result)[?cM]:Prop :=
 match r with
 | .ok (.ret u)=>?T8
 | .ok _=>False
 | .error e=>CX ?aA H s E e s'
structure Bz[?cI][?d][?fL](CX:sX)(k:Nat)(f:Addr)(fd:FuncData)(ps:?E)(sp:Sp):Prop where
 len:?xS
 run:∀[?k7] [?nF] [?bR] (H:Hp) (args:Args) [?dI] [?dK] (Q:VK) (E:XK),?mQ->?z5->?A7 s fd ?cW ?n0->?gX->?mV →
  ?f6 ?g4 A (?kH ?bM ?cW) (CR CX ?aA P w H s Q E) s
def JQ.make[?cG][?n5][?V]{outer:?d1}[?a5]{H:Hp}(e:?z5)(C:Addr)[?dI](kw:?j8) :
 JQ P w K mg ?aG (?kR) ?aA s H:=#[by first | exact e.frames | (simpa[Around.under,Code.envs,Code.isFrame,pushEnvs]using e.frames),e.mod,e.bs,e.bsz,e.funs,e.frf,e.hok,e.bare]
section
variable[?uE][?bO]{s s':Shared}
def Bm.env0[?e]:JQ ?a1 X.w X.K ?cB ?bI X.A ?gQ s H :=
 #[I.ok.frames,I.ok.mod,I.bs,?FM,I.stack,I.stkFree,?b7,?c5]
def Bm.after{Q:VK}[?aO][?e](h:CE ?gQ ?a1 X.w H s Q u s'):?DX:=by
 let#[v,H',os,bare,un,hok,r,q]:=h;let#[hh,g,d,t,os']:=s';obtain rfl:os'=s.os:=os;exact#[v,H',I.call (h':=hh) (g':=g) (d':=d) (t':=t) (ch:=[]) un hok bare (λb z=>?x z ?K),r,q]
universe e9
abbrev tCall[?tV](t:TA):TE:=λσ H Q=>t σ H λvs H1=>sp ?hD H1 Q E
inductive SO[?nG][?tV](t:TA)(σ:St)[?k2]:Prop
 | mk:∀a dx fs,?jA->(?x7)->(?vW)->(t σ H1 λvs H2=>sp (x::?hD) H2 Q E)->?UD
abbrev JW[?nG][?tV](ta:TE)(t:TA):TE:=?Y6 ta ?UD
abbrev wN(C:Addr)[?tV](t:TA):TE:=λσ H Q=>t σ H λvs H1=>∀x dx,H1 x=none->H1 dx=none->?z0 →
 ?YJ H1
abbrev Nm[?d](fd:FuncData)(ps:?E)(ds:?w):Prop :=
 ∀[?bR] [?dI],?l9->?PQ->?A7 s fd ?v6 (ps.zip (us++ds))
def Nm.all[?H][?D7](h:∀us:?w,?N9->?LB fd ?v6=?aC ?n0):?z9:=λs us _ hl=>by
 rw[qp3]at hl ⊢;exact .of_eq (h us hl)
abbrev S3(CX:sX)(X:Cx)(E:XK):Prop:=∀(Ae:Bi) (σ:St) (H:Hp) [?bR] (e:Value) [?cM],?D->CX ?gQ H s E e s'->?m e s'
section
variable[?XV][?D7]{sp:Sp}{dvs:?q}{ds:?w}{E:XK}{x m:Str}{p pos apos:Pos}{e o:Expr}[?a3]{ta:TE}{t:TA}
def cH[?z]{Q:VK}[?U][?fV][?jQ][?eC][?n4]
 [?e] [?uC] (h:sp ?hD H Q E):?Y0 (call ?bM us) ?bK:=by
 have r2:?N ?hD (us++ds):=?wN hd;have hl:?PQ:=by rw[←r2.length];exact F.len _ _ _ _ h
 apply wpAny_call (codeAny_mono (F.run X.A X.stack s H #[us,[]] (us++ds) (vs++dvs) Q E hr I.env0 (hb s us I.kIn hl) r2 h) λr s' hq=>?_);cases r with
 | error e=>exact hx Ae σ H s e s' I hq
 | ok fl =>
   cases fl with
   | ret u=>exact I.after hq
   | next=>exact ?vY
   | brk=>exact ?vY
   | cont=>exact ?vY
def uM[?jQ][?eC](hg:?gZ)(hm:?q9=?C2)(hk:?yU X.K ?bM=true)[?n4]
 [?cJ] [?hH] [?jN] (hpl:?dY (·.1)=false:=by rfl) :
 PE X ?l7 (tCall sp dvs E t):=by
 ext Q;apply qu3 (?a21 I);apply ?YX hk;exact cH F hr hb hd hx I1 r q
def UK[?tE](hm:?M9)[?jQ][?eC][?n4][?cJ]
 [?CF] (hpl:?dY (·.1)=false:=by rfl)
 (ht:?KS=(do
   let ov ←?h6
   ?jB
   let ?iA ←?i3
   ?xA):=by rfl) :
 ?a2X dvs E:=by
 ext Q;ext V1;apply qs4 (first:=?c0) (h₀:=X.base) ?pW hm.kp (D9 (ha pos Ae s1 σ H1 _ I1 q) λus s2 #[vs,H2,I2,r,q2]=>#[I2.kIn,?_]) hst hpl;exact cH (us:=?aS::us) (vs:=?aS::vs) F hr hb hd hx I2 (?F rfl r) q2
def pR[?tE](hm:?M9)[?jQ][?eC][?n4]
 (ht:?KC=(do
   let ov ←?h6
   ?jB
   let ?iA ←?i3
   ?U2):=by rfl) :
 ?a2W dvs E:=by
 ext Q;ext V1;exact PySem.W.callWith_K0 (first:=?c0) I1.kIn hm.kp (cH (us:=?c0) (vs:=?c0) F hr hb hd hx I1 (?F rfl ?u) q)
structure Mk[?d](C f:Addr):Prop where
 makes:?Q4
 init:?ZV "__init__"=?qJ
 fn:?z8
 kp:?yU K ?bL=true
def PJ[?z]{Q:VK}[?U][?fV](M:?UF)[?jQ](hr:?MA)(hb:?NX)(hd:?F8)
 (hx:?O0) [?e] [?uC]
 (h:∀x dx,?a12 x->?a12 dx->?z0->?YJ H) :
 ?Y0 (call ?bL us) ?bK:=by
 have hq:=h ?b2 ?v (?hR (?sJ)) (?gB) (qe3 (?a1O _));have I2:=Bm.made (C:=C) I;have r2:?N (?jC ?b2::?hD) (?f4 ?b2::(us++ds)):=?F rfl (?wN hd)
 have hl:(?v7++ds).length=ps.length:=by
  have e:=r2.length;rw[F.len _ _ _ _ hq]at e;exact e.symm
 apply wpAny_call (QL (f:=f) ?aR M.makes M.init (qx6.mp M.fn) (?GQ (F.run _ ?gQ _ _ #[?v7,[]] (?f4 ?b2::(us++ds)) _ _ E (hr.make C us [])
  (I2.env0.make C us []) (hb _ (?v7) I2.kIn hl) r2 hq) λr s' hq'=>?_))
 cases r with
 | error e=>exact hx Ae σ _ _ e s' I2 hq'
 | ok fl =>
   cases fl with
   | ret u =>
     let#[v,H',I3,rv,ev,q3]:=I2.after hq';subst ev;exact#[rv,#[?jC ?b2,H',I3,rfl,q3]]
   | next=>exact ?v8
   | brk=>exact ?v8
   | cont=>exact ?v8
def uL(M:?UF)[?jQ](hr:?MA)[?CT][?n4]
 [?cJ] [?hH] [?jN] (hpl:?dY (·.1)=false:=by rfl) :
 ?ZP ?l7 (wN C sp dvs E t):=by
 ext Q;apply qu3 (?a21 I);apply ?YX M.kp;exact PJ M F hr hb hd hx I1 r q
universe e9
section
variable[?XV]{fd:FuncData}{ps ks:?E}{sp:Sp}{E:XK}{x m:Str}{p pos apos kpos:Pos}{e o:Expr}[?a3]{kws:?lQ}{te ta:TE}{t tk:TA}{nm:?bF Str}
variable{g:?w->?w->?w}{gV:?q->?q->?q}
universe e9
structure FnScope(N P:?E)(sc:Scope):Prop where
 kind:?sW
 co:?Q2
 gen:?GG
 nd:N.Nodup
 pre:N.take P.length=P
 par:?LU
 nofree:?H8
def bR[?tI]:?Z1 ?l3
 | [],_,_=>rfl
 | ?L0,m,h=>by
   unfold bindL;rw[bR ?JF];split
   . have:x≠n:=?F1
     simp[this]
   . rfl
def Bg{N P:?E}{sc:Scope}(h1:?sW:=by exact rfl)(h2:?Q2:=by exact rfl)(h3:?GG:=by exact rfl)(h4:N.Nodup:=by ext aE)(h5:N.take P.length=P:=by exact rfl)
 (h6:?LU:=by ext aE) (h7:?H8:=by ext aE):?yA N P sc:=#[h1,h2,h3,h4,h5,h6,h7]
def bS[?tI]:?Z1 ?kB
 | [],_,_=>rfl
 | ?L0,m,h=>by
   unfold bindC;rw[bS ?JF];split
   . rfl
   . have:x≠n:=?F1
     simp[this]
def BR[?tI]{v:Value}:∀{P:?E}[?nH]{i:Nat}[?nC],P.Nodup->?JB->?kD->?cX x=?e1 →
 ?l3 ?cX (?yJ) m x=?A
 | [],_,_,_,_,h,_,_=>?gM
 | ?gS,[],_,_,_,_,h,_=>?gM
 | p::P,?rO,0,m,nd,h1,h2,hk=>by
   simp at h1 h2;subst h1;subst h2;show ?a2L ?l3 p;unfold bindL;rw[bR ?QV,?jD];simp
 | p::P,?rO,i+1,m,nd,h1,h2,hk=>by
   show ?a2L ?l3 x;unfold bindL;exact ?a0R BR
def BS[?tI]{v:Value}:∀{P:?E}[?nH]{i:Nat}[?nC],P.Nodup->?JB->?kD->?cX x≠?e1 →
 ?kB ?cX (?yJ) m x=?A
 | [],_,_,_,_,h,_,_=>?gM
 | ?gS,[],_,_,_,_,h,_=>?gM
 | p::P,?rO,0,m,nd,h1,h2,hk=>by
   simp at h1 h2;subst h1;subst h2;show ?a2L ?kB p;unfold bindC;rw[bS ?QV,?gH];simp
 | p::P,?rO,i+1,m,nd,h1,h2,hk=>by
   show ?a2L ?kB x;unfold bindC;exact ?a0R BS
abbrev start(N:?E)[?dK]:St:=vs.map ?c++?b6 (N.length-vs.length) ?a9
abbrev JG(CX:sX)[?cI][?d][?fL](N:?E)(qual:Str)(scope:Scope)(f:Addr)(cd:Value)[?k7][?nF][?bR](H:Hp)(E:XK):Cx where
 prog:=P
 w:=w
 K:=K
 mg:=mg
 base:=base
 A:=?F5
 N:=N
 s₀:=s
 H₀:=H
 env:=?mX
 outer:=outer
 stack:=?mX::outer
 ex:=[]
 calm:=true
 fn:=λ_=>true
 pn:=[]
 xe:=λe s'=>?f ?g4 (?F5) (leaving (?mX) e) (λ_ s''=>CX ?aA H s E e s'') (λe' s''=>CX ?aA H s E e' s'') s'
def GO{sc:Scope}{n:Nat}{x:Str}(h:?wZ):∃c,(?TS n ?iL []).lookup x=?bE:=by
 have q:=?DZ ?iL n [] (?i h);exact Option.isSome_iff_exists.mp q
def MR{CX:sX}[?cG][?n5]{N ps:?E}[?XH][?V]{outer:?d1}{s s1:Shared}{H:Hp}{E:XK}[?U][?fV]
 (S:?OW) (hd:?F0) (e0:?z5) (hl:?TZ) [?uC]
 (x:InCallC s ?v (?l3 ?JP ?n0 ?g5) (?KZ) (?kB ?JP ?n0 ?g5) s1) :
 Bm (?HA) [] ?qE H s1:=by
 have hpl:ps.length<=N.length:=by have:=?cT ?LJ S.pre;rw[qe2]at this;omega
 let#[h1,tk,rfl,hk]:=x.done;have noA:∀b:Addr,b ∉ (?HA).ex:=λb z=>?PF
 apply#[#[e0.mod,S.kind,rfl,rfl,?e6,λy z c h1 h2=>?_,λy hy=>?_,λy c _ h=>?_,λ_=>hd,Around.frames_deeper e0.frames,?r ?EE,?GT,e0.bs,e0.bsz,λb _ _=>noA b,?GT,e0.funs,e0.frf],
  rfl,e0.bare,?x8 hk,#[_,x.toInCall.ns,λi y v h1 h2 h3=>?_],λy c h=>#[_,x.cell y c h],?HL ?aU,λy c h=>?_,λp hp=>?x (show p∈([]:Bi) from hp) ?K,e0.hok.kept hk,?_]
 . exact name_of_addr x.apart (qo5 h1) (qo5 h2)
 . have hy:?kQ y=?aW\/?kQ y=?cP:=hy;rcases hy with hy | hy
   . exact GO hy
   . exact ?x rfl (S.nofree _ (qo5 hy))
 . exact qe6 (x.above y c (qo5 h))
 . have hi:?zV:=by
    unfold start at h2;by_cases hi:?zV
    . exact hi
    . rw[qb5 (by simpa using hi)]at h2;rw[ql1]at h2;split at h2<;>cases h2
   have ha:?kD:=by
    unfold start at h2;rw[qb8 (by simpa using hi),qb4]at h2;cases e:vs[i]? with
    | none=>rw[e]at h2;cases h2
    | some a=>rw[e]at h2;cases h2;rfl
   let#[u,hu,rv]:=?lB ha
   have hp:ps[i]?=?lC:=by
    rw[←S.pre,List.getElem?_take_of_lt ?aF];exact h1
   have ndP:ps.Nodup:=by rw[←S.pre];exact S.nd.sublist (List.take_sublist _ _)
   apply#[u,rv,?_];rcases S.par y (qb3 hp) with k | k
   . exact ?i #[k,BR ndP hp hu k]
   . let#[c,e]:=GO (n:=?f8) k;apply ?r #[?i k,c,e,?_];have q:=x.cell y c e;rw[BS ndP hp hu (by show ?kQ y≠_;rw[k];decide)]at q;exact q
 . exact ?HL (qe6 (x.above y c (qo5 h)))
 . unfold start;show _=N.length;rw[qa8,qa2,qc5];omega
def Aw1{CX:sX}[?cG][?n5]{k:Nat}{f:Addr}{name qual:Str}{params:Arguments}{body:?f7}{scope:Scope}{dV kV doc pm Dp ct oc:Value}{an od:OAddr}
 {osl:Ro}{N ps:?E}{sp:Sp} (lk:?a2Q (?ZN ct)) (hcd:?xC) (S:?OW)
 [?X0]
 (hbody:∀[?CH],?a1V ?dV->?mV →
   ∃t,HC (?Y5 Dp) ?h4 t/\?J2) :
 Bz P w K mg ?aG CX ?lF f (?ZN ct) ps sp:=by
 apply#[len,λA outer s H args us vs Q E hr e0 hb r KR=>?_];have hl:=len _ _ _ _ KR;have KX:?l9:=e0.mod.kin.keeps ?TU;have lim:s.heap.NoLimit:=e0.mod.nolimit.keeps ?TU
 have hkind:∀y∈ps.zip us,?kQ y.1=?e1\/(?kQ y.1=?aW/\((?KZ).lookup y.1).isSome=true):=λ#[n,v] hy=>by
  rcases S.par n (qr4 hy).1 with q | q
  . exact ?i q
  . exact ?r #[q,?DZ _ _ _ (?i q)]
 apply codeAny_call_function hr.depth (KX _ _ lk) rfl S.co S.gen rfl (PySem.W.codeRec_of KX hcd) (hb _ _ _ _ ?_);apply wpAny_newFunctionEnv_cells S.kind hkind λenv he s1 x=>?_;subst he;apply#[lim.keeps x.toInCall.keep,codeAny_func ?_];let#[t,ht,hq]:=hbody A ?aA s H vs Q E (hr.deeper _) KR;have I:Bm (?Y5 Dp) [] ?qE H s1:=MR S hr.hd e0 hl r x;apply qn9 (ht [] s1 ?qE H _ I hq) (λfl s' hs=>?_) λe s' hs=>hs
 have fin:∀{σ':St}{H':Hp}{v:V}[?aO],Bm (?Y5 Dp) [] σ' H' s'->?d9->?lT->?T8 :=
  λ{σ' H' v u} J rv q=>#[v,H',J.os,J.bare,J.base,J.hok,rv,q]
 cases fl with
 | ret u =>
   let#[v,σ',H',J,rv,q]:=hs;exact fin J rv q
 | next =>
   let#[σ',H',J,q]:=hs;exact fin (v:=V.non) (u:=Value.none) J rfl q
 | brk =>
   let ?P0:=hs;exact ?dW q
 | cont =>
   let ?P0:=hs;exact ?dW q
section
variable{X:Cx}{x:Str}{p pos:Pos}[?cN][?a3]{t:TA}{id T:String}{r:?cQ}
abbrev tCB(r:?cQ)(t:TA):TE:=λσ H Q=>t σ H λvs H1=>r vs H1 Q
def Aw(hc:E4 X ?kG r)(hm:?v1)(hv:?pD=?c ?kG)[?cJ](hg:?gZ:=by rfl)[?tO][?hH]
 [?jN] (hpl:?dY (·.1)=false:=by rfl):?SF:=by
 ext Q;apply ?a1Z I;exact ?YE PyProof.Rows.callWith_builtin1
def Gz(hc:E4 X ?wP r)(hg:?gZ)(hm:?v1)(hv:?pD=?c ?wP)[?cJ][?tO][?hH]
 [?jN] (hpl:?dY (·.1)=false:=by rfl):?SF:=by
 ext Q;apply ?a1Z I;exact ?YE qh1
universe e9
universe L2
namespace HT
open PySem PyProof.Rows
section
open PySem.SeqAt
open PySem.AutoSeq1 (wpAny_loadPart')
open PySem.MeetsSeq PySem.MeetsSeq2 PySem.MeetsSeq3
universe e9
section
variable[?jT][?T][?a5]
abbrev sIx(n d:Nat):?g1->Nat
 | none=>d
 | ?A=>if v<0 then(v+?eZ).toNat else min v.toNat n
def sIx_none(n d:Nat):sIx n d ?a9=d:=rfl
def sIx_nat(n d k:Nat):sIx n d (?c ?eO)=min k n:=by
 show(if ?eO<0 then(?eO+?eZ).toNat else min (k:Int).toNat n)=min k n;rw[?B2,qd6]
universe e9
universe HT
namespace L2
open PySem PySem.Spec PyProof.Rows
noncomputable abbrev TO:=?a2N ?C5
abbrev PO(X:Cx)(e:?TO)(t:TO):Prop :=
 ∀[?P] (Q:?C5),?D->?j7 →
   ?Y0 (evalPart e ?g) (λu s'=>∃o H',?sN/\?wV u o/\Q o H')
abbrev TR:TO:=?a1F ?a9
inductive SM(Q:?C5)(x:V)(H1:Hp):Prop
 | mk:∀i,?nT->(Q (?c i) H1)->?KM
abbrev Am7(t:TE):TO:=?Y6 t ?KM
section
variable{X:Cx}[?cN]{te:TE}{lo hi:?TO}{tl th:TO}{pos p2:Pos}
def Qo:PO X ?a9 TR:=by
 ext Q;rw[evalPart_none];exact qc9 #[?a9,H,I,?aJ,h]
def Qn(h:?AM):PO X (?c e) (Am7 te):=by
 intro Ae s σ H Q I hw;rw[evalPart_some];apply D9 (?YA h hw) ?oP;ext dG;let ?IX:=q1;let ?bY:=r1;exact#[?c i,H1,I1,?h i t,q]
abbrev SlR(X:Cx)[?XF]:Prop :=
 ∀[?P] (x:V) (v vl vu:Value) [?nE] (sl:Addr) (Q:VK),?D->?e2->s.heap.IsSliceOf sl vl vu ?aJ->?wV vl lo->?wV vu hi->r x lo hi H Q →
   ∃T id,typeLookup ?wP "__getitem__"=?aC (?c ?kG)/\s.TypeIs v T/\?Y0 (?w0 v (?j sl)) ?bK
abbrev tSl[?XF](te:TE)(tl th:TO):TE:=λσ H Q=>te σ H λx H1=>tl σ H1 λl H2=>th σ H2 λu H3=>r x l u H3 Q
def Mz{r:?yD}(hr:SlR X r)[?hN](hl:PO X lo tl)(hu:PO X hi th):?ZP (?q3 e (.Slice lo hi ?a9 p2) pos) (tSl r te tl th):=by
 ext Q;apply ?JM (D9 ?gK ?gV);ext dG;apply wpAny_Slice (D9 (?Y8 hl _) λvl s2 #[l,H2,I2,pl,q2]=>D9 (hu Ae s2 σ H2 _ I2 q2) λvu s3 _z=>?_);let#[u,H3,I3,pu,q3]:=_z;rw[evalPart_none];apply qc9 ?_;have I4:?Y7 H3 ?wG:=I3.kept (t':=s3.toks) ?NO;let#[T,id,hT,ht,hg]:=hr Ae ?wG σ H3 x v vl vu l u ?uF Q I4 r1 (Heap.IsSliceOf.new ..) pl pu q3;show ?f ?k X.A (?PO e (.Slice lo hi ?a9 p2) v (?j ?uF)) ?bK ?m ?wG;exact tail_any (ops:=[?j ?uF,v]) ht hT hg (by with_unfolding_all rfl)
abbrev Nd[?a4][?nE]:?q:=?a18 ?oO
def gM[?a4][?nE]:(?Q6).length<=xs.length:=by
 unfold Nd;rw[qe2,ql8];exact qa5 (Nat.min_le_right _ _) (Nat.sub_le _ _)
universe e9
abbrev VE(n:Nat)(i:Int):?bF Nat:=if ?hX then(if i<n then ?c ?x1 else none) else if ?xH then ?c ?HT else none
abbrev dX{α:Type}(xs:?f3)(i:Int):?bF α:=(VE ?bA i).bind λj=>xs[j]?
def KQ{n:Nat}{i:Int}{j:Nat}(h:VE n i=?dX):?ED i n=?dX/\j<n/\?xH/\i<n:=by
 unfold VE at h;by_cases h0:?hX
 . rw[?S h0]at h;by_cases h1:i<n
   . rw[?S h1]at h;have e:?N6:=qb9 h;exact#[by rw[?AD h0 h1,e],O9m,O9m,h1]
   . rw[?G h1]at h;cases h
 . rw[?G h0]at h;by_cases h1:?xH
   . rw[?S h1]at h;have e:?HT=j:=qb9 h;exact#[by rw[?xG ?aF h1,e],O9m,h1,O9m]
   . rw[?G h1]at h;cases h
def LF{α:Type}{xs:?f3}{i:Int}{v:α}(h:dX xs i=?A):∃j,?O4=?dX/\xs[j]?=?A/\?BI/\-?sZ<=i/\?HX:=by
 unfold dX at h;cases e:VE xs.length i with
 | none=>rw[e]at h;cases h
 | some j =>
   rw[e]at h;let ?TH:=KQ e;exact#[j,h1,h,h2,h3,h4]
def Bp{α:Type}{xs:?f3}{j:Nat}{v:α}(h:xs[j]?=?A):dX xs (j:Int)=?A:=by
 have hj:?BI:=?LW
 have e:VE ?bA (j:Int)=?dX:=by
  unfold VE;rw[?AN,?AN];simp
 unfold dX;rw[e];exact h
abbrev WC(b:Expr):Prop:=∀o i,?HM b ?cO o i=operate [o,i] (?w0 o i)
abbrev IxR(X:Cx)(r:R2):Prop :=
 ∀(value slice:Expr) [?P] (x y:V) (v u:Value) (Q:VK),?D->?e2->?lY->?GW →
   ?HM slice ?cO v u=operate [v,u] (?w0 v u)->?Y0 (?PO ?iU slice v u) ?bK
abbrev MtR(X:Cx)(id:String)[?tS]:Prop :=
 ∀[?P] (x:V) [?a4] (v:Value) [?dI] (Q:VK),?D->?e2->?bG->?U6 →
   ?N8
section
variable{X:Cx}{a b:Expr}{ta tb:TE}[?W]
def Ay{r:R2}(hr:IxR X r)[?hI](hs:WC b):?ZP (?q3 a b pos) ?rF:=by
 ext Q;exact ?JM (Ae9 ha hb I h λv u s2 x y H2 I2 rx ry q=>hr a b Ae s2 σ H2 x y v u Q I2 rx ry q (hs _ _))
inductive yD[?d][?cH]:Prop
 | mk:∀p xs i v,(x=?e5)->(?sT)->(?KY)->(dX xs i=?A)->(Q v H)->?U7
abbrev Ap2[?d]:R2:=?Z4 ?U7
inductive YC[?d][?cH]:Prop
 | mk:∀p xs i v,(x=?e5)->(?sT)->(SqT K H p xs)->(dX xs i=?A)->(Q v H)->?I6
abbrev Ap1[?d]:R2:=?Z4 ?I6
def vE:IxR X (Ap2 X.K):=by
 ext VB;let ?J0:=?eJ;ext V7
 by_cases h0:?hX
 . have hj:?N6:=by
    rw[?AD h0 h5]at h1;exact ?rN
   exact item_listR ?gO h0 O9m (by rw[hj];simpa using ew) fin hs
 . have hj:(i+?SH).toNat=j:=by
    rw[?xG ?aF h4]at h1;ext hP;exact ?rN
   exact ?L8 (x:=w) ?PT ?RU
    (wpAny_getItem_list_neg (Q:=?MY) ?gO O9m (by rw[qd2]<;>omega) O9m (by rw[hj];simpa using ew) ?OJ) hs
def Aa3:IxR X (Ap1 X.K):=by
 ext VB;let ?J0:=?g0;ext V7
 exact ?L8 (x:=w) pl.typeIs slot_tuple_getitem.lookup
  (getItem_tuple (j:=j) (Q:=?MY) pl O9m O9m (by ext hP;exact h1) (by simpa using ew) ?OJ) hs
def iN[?u7](n j:Nat)[?dL]:?pJ (·.setIfInBounds j u) ?B8={ cls:=?b5,data:=?aK (its.set j u).toArray n }:=by
 simp[Obj.mapSeq]
def Bm.lst[?z]{p:Addr}[?bQ][?e](h:?wJ) :
 ∃(its:?w) (n:Nat),?iV/\?HN/\?fE:=by
 let ?rG:=?b7 p _ h;exact#[its,n,r,e,z]
def Bm.lstUpd[?z]{p:Addr}[?nK]{its its':?w}{n n':Nat}{f:Obj->Obj}[?e](h:?wJ)
 (ho:?HN) (hf:f ?B8=?QZ) (r:?ON) [?DA] (t:Nat) :
 Bm X Ae σ (?YL p ?eG) { s with heap:=?q2 p f,toks:=t }:=by
 have e:(?q2 p f).get? p=?c ?QZ:=by
  rw[?FO f ho (by rw[hf]<;>rfl),hf]
 apply ?vL (x:=p) (e:=p) (by rw[h];trivial) ?dM (λb u hb q=>(?R6 _ _ ?M0).trans q) ?zU ?_;exact#[hz,?eY,n',r,e]
inductive sQ(o:V)(i:V)(v:V)(H:Hp)(Q:(?a6)):Prop
 | mk:∀p xs k j,(o=?e5)->(i=?rU)->(?wJ)->(VE ?bA k=?dX)->(Q (?YL p (?n (xs.set j v))))->?TK
abbrev Ao8:V->V->V->?YC Hp (?a6):=λo i v H Q=>?TK
def Fp:Ay9 X Ao8:=by
 intro Ae s σ H o i v ov iv u Q I ro ri rv h;let#[p,xs,k,j,rfl,rfl,hp,hj,q]:=h;cases ro;let ?bY:=ri;let#[its,n,r,ho,hz]:=I.lst hp;let ?TH:=KQ hj;have hl:=r.length;have hn:=cX
 have I':Bm X Ae σ (?YL p (?n (xs.set j v))) { s with heap:=?q2 p (?pJ (·.setIfInBounds j u)) } :=
  I.lstUpd hp ho (iN its n j u) (r.set rv j) (by rw[qi2];exact hz) ?mY
 by_cases h0:0<=k
 . have hk:k.toNat=j:=by
    rw[?AD h0 h4]at h1;exact ?rN
   exact PySem.W.ki_setAt ho h0 O9m (by ext hP;exact h4) (by rw[hk];exact#[_,I',q])
 . have hk:(k+?SH).toNat=j:=by
    rw[?xG ?aF h3]at h1;ext hP;exact ?rN
   exact PySem.W.ki_setBack ho O9m (by ext hP;exact h3) O9m (by rw[hk];exact#[_,I',q])
def CB[?nE](n:Nat):(?w2).1=((?gI n 0 lo:Nat):Int)/\(?w2).2.1=((?gI n n hi:Nat):Int)/\(?w2).2.2=1:=by
 apply#[?_,?_,rfl]
 . cases lo with
   | none=>simp[sliceBounds,HT.sIx]
   | some i =>
     ext VH
     . simp only[h,if_true]<;>omega
     . simp only[h,if_false]<;>omega
 . cases hi with
   | none=>simp[sliceBounds,HT.sIx]
   | some i =>
     ext VH
     . simp only[h,if_true]<;>omega
     . simp only[h,if_false]<;>omega
def j9[?u7][?nE]:slicePick ?I lo hi ?a9=((its.drop (?P8)).take (?gI ?xL ?xL hi-?P8)).toArray:=by
 let#[h1,h2,h3]:=CB lo hi ?lW;unfold slicePick;rw[h1,h2,h3];simp only[sliceRange_one,pick_run,qd2]<;>rfl
inductive XZ[?d](x:V)(lo:?g1)(hi:?g1)[?cL]:Prop
 | mk:∀a xs,?jA->(?e0)->?a2O (?O8) ?MF
abbrev Ao7[?d]:?yD:=λx lo hi H Q=>?MF
def tX:SlR X (Ao7 X.K):=by
 intro Ae s σ H x v vl vu lo hi sl Q I rx hs pl pu h;let#[a,xs,rfl,hx,q]:=h;cases rx;let#[its,r,ht,hz]:=?b9 hx;have hlen:=r.length;apply#[?dP,_,?RU,ht.isList.typeIs,?_];apply wpAny_getItem_list_slice ht.isList hs pl pu ?aJ ?K ?_ (by rw[qd2]<;>omega);rw[j9,←hlen];apply#[?jK,_,?s7 (t':=s.toks) (o:=?O8) (?NO) ?aU ?_,rfl,q _ (?gB)];exact#[qa5 (gM xs lo hi) hz,_,0,?a18 r.drop,?g2]
def DT:?a2Y "len" (λxs H Q=>∃p ys,?gE/\(?BE\/?vZ)/\Q (?h ?pF) H):=by
 ext fM;ext WF;have hn:=cX;rcases hq with hq | hq
 . ext CK;exact Calls.call_len_list ?gO ?mS ?ID
 . ext CW;have hlen:=r'.length;exact len_tuple pl ?mS ?ID
def DS:E4 X (?b5) (λxs H Q=>∃p ys,?gE/\(?BE\/?vZ)/\?O5):=by
 ext fM;ext WF
 have fin:∀[?u7],?PM->?SK->∀(h':Heap) (c':Nat),(∀b o',?aY b=?c o'->?iM=?c o') →
  ?zM=?c { cls:=?b5,dict:=none,data:=?aK ?I c',slots:=#v[] }->?YW ?iD ?gR:=λits r' hz h' c' kp e =>
  #[?jK,_,?s7 (t':=s.toks) kp ?aU (show ?cA ?a1 X.w _ h' _ ?eG from#[hz,its,c',r',e]),rfl,q _ (?gB)]
 rcases hq with hq | hq
 . ext CK;let ?R5:=pl.isList;exact ?Z9 ?dM
 . ext CW;have hlen:=r'.length;let ?R5:=pl;exact ?Z9 (?r rfl)
def AD:E4 X (?dQ) (λxs H Q=>∃p ys,?gE/\((?BE/\?J6)\/(?vZ/\Q ?bJ H))):=by
 ext fM;let#[p,ys,rfl,h]:=h;let ?M7:=Tc r;cases rx;rcases h with⟨hq,q⟩|⟨hq,q⟩
 . ext CK;apply call_tuple_list ?gO (λh' kp=>?_) ?mS;have I1:?uN:=?m3 (t':=s.toks) kp
   have I2:Bm X Ae σ (?YL ?QG (?M ys)) { s with heap:=h'.push { cls:=?dQ,data:=?aK ?I } } :=
    ?wX (t':=s.toks) (?qV) ?aU (show ?cA ?a1 X.w _ _ _ (?M ys) from#[hz,its,r',Qh.new _ _])
   exact#[?j ?QG,_,I2,rfl,q _ (I1.hok.fresh ?aU)]
 . ext CW;exact call_tuple_same pl #[?e5,H,I,rfl,q]
abbrev tyV[?d](T:String)(x:V)(H:Hp):Prop:=match x with
 | ?c1=>T=?m9
 | ?e8=>T=?d2
 | ?e5=>(T=?dP/\∃xs,?KY)\/(T=?gW/\∃o,?iY p=?l/\?xK/\?yN) ∨
    (T=?oC/\((∃kvs,H p=?c (.dK kvs))\/∃kvs,H p=?c (.dT kvs)))\/(T="set"/\∃S n,H p=?c (?S2))
 | _=>False
def YQ[?z]{T:String}{x:V}{v:Value}[?e](r:?e2)(ty:tyV X.K T x H) :
 s.TypeIs v T/\∀a,?f9->∃ob,?aY a=?c ob/\ob.dict=none:=by
 cases x with
 | str z =>
   ext fS;cases (show T=?m9 from ty);exact#[typeIs_str s z t,?FP]
 | int i =>
   ext fS;cases (show T=?d2 from ty);exact#[?zK s i t,?FP]
 | ref p =>
   cases r;rcases ty with⟨rfl,xs,hq⟩|⟨rfl,o,hk,hc,hd⟩|⟨rfl,hk⟩|⟨rfl,S,n,hk⟩
   . let#[its,_,pl,_]:=?eJ;apply#[?PT,?HD];cases e;let#[o,n,e,c,hd,_]:=pl;exact#[o,e,hd]
   . apply#[#[o,?aR p o hk,hc],?HD];cases e;exact#[o,?aR _ o hk,hd]
   . have z:∃o,?aY p=?l/\o.ExactDict:=by
      rcases hk with⟨kvs,hk⟩|⟨kvs,hk⟩
      . ext W9
      . ext W9
     let ?FQ:=z;ext W3
   . let#[o,_,_,_,e,ex,_]:=?Q3;ext W3
 | _=>exact ?dW ty
structure Br1[?d](T:String)[?tS](t:TA)(σ:St)[?k2]:Prop where
 mk::(left:tyV K T x H1) (right:t σ H1 λxs H2=>r x xs H2 Q)
abbrev tBM[?d](T:String)[?tS](to:TE)(t:TA):TE:=λσ H Q=>to σ H λx H1=>Br1 K T r t σ Q x H1
variable{o e:Expr}[?a3][?VU]
def Aq0[?VD][?cJ]
 [?W2]
 (hfew:(?JZ
   && ?YQ 1)=true:=by rfl)
 [?XC] [?CG] (hplain:?vD (·.1)=false:=by rfl) :
 ?ZP (?a33 o) (tBM X.K T r to t):=by
 ext Q;apply wpAny_Call_method_late hbase hfew hline rfl (D9 (?YA ho h) ?gV);let#[x,H1,I1,r1,ty,q1]:=_z;let ?z4:=YQ I1 r1 ty;apply#[T,id,pa,slot,hty,h1,h2,?_];have hA:=ha cpos Ae s1 σ H1 _ I1 q1;rw[hs]at hA ⊢;apply qr0 (by show(false || ?vD (·.1))=false;rw[hplain]<;>rfl) (qy0 ?_);exact D9 hA λus s2 #[vs,H2,I2,r2,q2]=>hm Ae s2 σ H2 x vs v us Q I2 r1 r2 q2
universe e9
abbrev MtM(X:Cx)(id:String)[?tS]:Prop :=
 ∀[?P] (x:V) [?a4] (v:Value) [?dI] (Q:VK),?D->?e2->?bG->?U6 →
   ?N8
def Vals.one:∀{x:V}[?U],?NW->?FI
 | _,_,?F r ?u=>?M3
def Vals.eraseIdx:?a2D (?TT i) (us.eraseIdx i)
 | _,_,_,?u=>?u
 | _,_,0,?r5=>t
 | _,_,i+1,?hS=>?F r (Vals.eraseIdx i t)
def Vals.rep[?bQ][?U](h:?bG):∀k:Nat,?N (?OS).flatten (?b6 k us).flatten
 | 0=>?u
 | k+1=>by
   rw[qk3,qk3,qm8,qm8];exact ?QM h (Vals.rep h k)
def AY{α:Type}:∀(l:?f3) (i:Nat),(l.eraseIdx i).length<=l.length
 | [],_=>?e6
 | ?gS,0=>?sJ
 | _::r,i+1=>qj0 (AY r i)
def bK[?u7]:∀(k:Nat) (acc:?w),
 ?w5 (λx1 x2=>x1++x2) acc.toArray (?b6 k ?I)=(acc++?GL).toArray
 | 0,acc=>?aH
 | k+1,acc=>by
   have e:acc.toArray++its.toArray=(?vE).toArray:=?aH
   have e2:(?vE)++?GL=acc++(?b6 ?lF its).flatten:=by
    rw[qk3,qm8,qh8]
   rw[←e2,←bK its k (?vE),←e,qk3,List.foldl_cons]
section
variable{X:Cx}[?z]{l b:Addr}{xs ys zs:?q}
def Bm.lset{its its':?w}{n:Nat}{f:?cR->?cR}[?eF][?e](hH:?rB)
 (e:?FZ) (hf:f ?I=its'.toArray) (hv:?ON) [?DA] :
 Bm X Ae σ (?YL l ?eG) { s with heap:=?q2 l (?pJ f),toks:=t' }:=by
 have q:=PySem.IsL.update e f;rw[hf]at q;apply ?vL (x:=l) (e:=l) (by rw[hH];exact trivial) ?dM (λb' u hb hu=>(?R6 ?y (?pJ f) ?M0).trans hu) #[_,q] ?_;exact#[hz,?eY,_,hv,q]
def Bm.lnew{its:?w}[?eF][?e](hv:?PM)[?DA] :
 Bm X Ae σ (?YL ?v ?eG) { s with heap:=?kO { cls:=?b5,data:=?aK ?I },toks:=t' } :=
 ?s7 (λ_ _ q=>?kM) ?aU #[hz,its,0,hv,?g2]
def Bm.fresh[?e]:?mZ:=?gB
def Bm.lstM[?e](hH:?rB):?fE/\∃(its:?w) (n:Nat),?iV/\xs.length=its.length/\?FZ:=by
 let ?rG:=?b7 l _ hH;exact#[z,its,n,r,r.length,e]
def QC{n:Nat}(h:?B1):?EQ n=false:=by
 unfold Builtin.List.listTooLong;exact qf2 O9m
universe e9
section
variable{X:Cx}
inductive gZ(x:V)[?dK][?cL]:Prop
 | mk:∀l xs y,?mD->(vs=[y])->?rX->?a3B (xs++[y]) ?QY
abbrev uD:?kC:=λx vs H Q=>?QY
def Kd:MtM X "list.append" uD:=by
 ext CP;let#[l,xs,y,rfl,rfl,hH,hz,q]:=h;cases rx;let ?BO:=rv.one;ext tJ;apply ?mM F.slot_list_append ?iT F.entry_list_append (F.args_list_append_2 _ _) (PySem.list_append l ?I n u (?yV)) ?q6;apply#[?t,_,?zZ (its':=its++[u]) hH e ?K (?wN (?F ru ?u)) ?_,rfl,q];rw[qa8,qn5];omega
inductive lJ(x:V)[?dK][?cL]:Prop
 | mk:∀l xs i k y,?mD->(vs=[?B])->?rX->(-(?gL)<=i)->(i<?gL)->(?O4=?c k)->(xs[k]?=?lC)->(?a2V y (?n (?TT k)))->?OY
abbrev yZ:?kC:=λx vs H Q=>?OY
def fW:MtM X "list.pop" yZ:=by
 ext CP;let#[l,xs,i,k,y,rfl,rfl,hH,h1,h2,hk,hy,q]:=h;cases rx;let ?BO:=rv.one;let ?bY:=ru;ext tJ;let#[w,hw,rw']:=?lB hy
 apply ?mM F.slot_list_pop ?iT F.entry_list_pop (F.args_list_pop_2 _ _)
  (MeetsSeq.list_pop_at l ?I n i t k w (?EA) (by ext hP;exact hk) (by rw[←Array.getElem?_toList];exact hw) (?yV)) ?q6
 apply#[y,_,?zZ (its':=its.eraseIdx k) hH e ?_ (r.eraseIdx k) ?_,rw',q]
 . show its.toArray.eraseIdxIfInBounds k=(its.eraseIdx k).toArray;rw[List.eraseIdxIfInBounds_toArray]
 . have:=AY xs k;omega
inductive YA[?cH]:Prop
 | mk:∀l k xs,?mD->(y=?rU)->?rX->(-(?gL)<=k)->(k<?gL)->(xs.length*k.toNat<=sizeLine)->?a2O (?n (?b6 ?rE xs).flatten) ?E8
abbrev Ba3:R2:=?Z4 ?E8
def UZ{α:Type}(xs:?f3)(k:Nat):(?OS).flatten.length=k*xs.length:=by
 induction k with
 | zero=>simp
 | succ k ih=>rw[qk3,qm8,qa8,ih,Nat.succ_mul,qy3]
def PV:Rk X (?c8 .Mult) Ba3:=by
 ext e9;let#[l,k,xs,rfl,rfl,hH,h1,h2,hz,q]:=h;cases rx;ext eB;ext tJ;have hlen:?ZJ ?zE:=by ext hP;exact hz
 have hcap:¬?zE > ?PN:=by
  have:?SE<=?PN:=?lM
  omega
 have hfit:¬?a35 (! ?FJ k):=by
  rw[?EA];exact qe5
 have Au3:¬?EQ (?zE)=true:=by
  rw[QC ?i7];exact qe5
 have hnew:?Z7 (if ?a35 its.toArray.isEmpty then 0 else k.toNat) ?rE:=by
  have f0:∀m:Nat,?Z7 m m:=λm=>by
   have:=bK its m [];rw[qn4]at this;exact this
  rw[f0];cases its with
  | nil=>simp
  | cons a r'=>rw[?G ?K]
 apply wpAny_binaryOp_repeat_ref (T:=?dP) (U:=?d2) ?d3 ?iT (λs'=>?zK s' k t) noFill_list_mul F.fills_int_mul ?I9 repeat_list F.slot_int_index.lookup
  (?mM ?I9 (?zK s k t) F.entry_int_rmul (F.args_int_rmul_2 _ _) (int___rmul___int_list k t l ?I n)
    #[e,rfl,?iT,?mM F.slot_list_mul ?iT F.entry_list_mul (F.args_list_mul_2 _ _) (AutoListH.list___mul___list_int_3 l ?I n k t hfit hcap Au3) ?q6])
 rw[hnew];exact#[?j _,_,I.lnew (t':=s.toks) (r.rep ?rE) (by rw[UZ,Nat.mul_comm];exact hz),rfl,?RD]
universe e9
section
variable[?jT][?T][?a5]
universe e9
section
variable{X:Cx}
universe e9
universe L2
namespace Att
open PySem PySem.W PySem.Calls PyProof.Rows
def W7{P:Params}[?aT]:∀[?eD] (vs:?w),WellAll P h vs (?d4 WData.int)->?lL:=by
 intro ns
 induction ns with
 | nil =>
   intro vs w;rw[qv3]at w;cases w;exact ?u
 | cons n ns ih =>
   intro vs w;rw[qd3]at w;cases w with
   | cons a b =>
     cases a;exact ?F _ _ (ih _ b)
def script_of{l:OpenLaw}{n:Nat}[?DJ]{P:Params}[?aT]{args:?F6}{vals:?w}
 (hpre:l.row.toRowW.claim.pre ?cW=true) (hwl:WellAll P h vals ?cW) :
 ∃a vs ns,vals=[?f4 a]/\args=[?YZ WData.list]/\?c9=?c ?s5/\?lL/\?qP:=by
 have hsh:WShape.hasAll [] ?cW [.list ?h]=true:=(?FY).1;have hc:l.pre.holds [] { args:=args }=true:=(?FY).2;let#[d,r,rfl,h1,h2]:=hasAllW_cons hsh;obtain rfl:=hasAllW_nil h2;let#[xs,rfl,h3]:=hasW_list h1;let#[ns,rfl]:=items_int h3
 have hlen:?qP:=by
  unfold OpenLaw.pre at hc
  have h4:(WTm.not (.lt (.lit (?h ?eZ)) (.len (.arg 0)))).holds [] { args:=[.list (?d4 ?h)] }=true:=by
   have h4:=(holds_andW hc).1;rw[hn]at h4;exact h4
  have h5:=condW_of h4 (w_not (w_lt w_lit (w_len_list (w_arg rfl))));rw[qa2]at h5;apply qh7 λq=>?_;have q':?eZ<((ns.length:Nat):Int):=O9m
  first
   | (rw[qe1 q']at h5;exact ?x h5 ?d3)
   | (simp at h5;omega)
 cases hwl with
 | cons w1 w2 =>
   cases w2;cases w1 with
   | list ho hall=>exact#[_,_,ns,rfl,rfl,ho,W7 ns _ hall,?i7]
def post_true(l:OpenLaw)(args:?F6):l.row.toRowW.claim.post ?cW ?jH ?cW=true :=
 postW_of (r:=l.row.toRowW) (X:=(true==true))
  (show WShape.has [] ?jH ?cD=true by first | rfl | decide | simp[WShape.has,WShape.arms,WShape.armsAll])
  (show(WTm.eq .res (.lit ?jH)).value [] { args:=args,res:=?c ?jH,after:=args }=?c (?cD (true==true)) from w_eq_bool (w_res rfl) w_lit) rfl
section
variable[?jT][?T][?a5]{K:Frag}
universe e9
universe Att
namespace L2
open PySem PySem.Spec PyProof.Rows
def AJ:∀[?nH][?fT],?lL->?N ?gY vs
 | _,_,?u=>?u
 | _,_,?F n t h=>?F ?bY (AJ h)
abbrev Af6(H:Hp):Prop:=∀b,?Y\/∃o xs,H b=?c (.frz o ?kT)
def qT[?cG]{mg mb:?c6}{CX:sX}{k:Nat}{fa a:Addr}{fd:FuncData}{x:Str}{sp:Sp}{s₁:Shared}[?nH][?fT]
 (KX:K.In ?hC) (hns:?uI ?A3 mg) (hb:?uI ?FL mb) (hbb:?PR) (hlim:s₁.heap.NoLimit) (hg:?G1)
 (ha:?I3) (hi:?lL) (hl:?T9) (hr:?TN)
 (F:∀base:Heap,?SR->?xO->Bz P w K mg ?aG CX k fa fd [x] sp) (hbind:?LQ)
 (KR:∀H:Hp,Af6 H->?p2->sp ?c0 H (λv _=>v=?mG) ?j6)
 (hCX:∀H e s',CX [] H ?f2 (?j6) e s'->False) :
 ?TJ:=by
 have rv:=AJ hi;have Bc6:=hi.length
 have core:∀H:Hp,Af6 H->?p2->Rl P w H ?hC->(∀b,H b≠none->b=a)->(?zH->?iY a=none) →
  ?TJ:=by
  intro H hO hS hok hA hK;have lF:∀[?k5],?RB->?Y->(?mO).get? b=?l:=λe n=>qY e n
  have noA:∀[?k5]{es:?iZ DictEntry}{ep:Nat},?RB->?KW->?Y:=λ{b o es ep} e d=>by
   cases q:H b with
   | none=>rfl
   | some u =>
     have e':b=a:=?LM;subst e';rw[ha]at e;cases e;have d':?H0 ?vB _=Data.dict es ep:=d;cases d'
  have nsK:∀{b:Addr}[?nC],?uI b m->(?mO).Ns b m:=λ{b m} #[o,es,ep,e,d,r]=>#[o,es,ep,lF e (noA e d),d,r]
  have hKb:K.In (?mO):=λb o e=>lF (KX b o e) (by
   cases q:H b with
   | none=>rfl
   | some u =>
     have e':b=a:=?LM;subst e';rw[hK (?BC)]at e;cases e)
  have hM:Mod K mg (?mO):=#[hKb,nsK hns,#[mb,nsK hb,hbb],let #[mc,h1,h2]:=hlim;#[mc,nsK h1,h2]]
  have e0:JQ P w K mg (?mO) ?qI [] ?f2 H:=#[rfl,hM,λb o e=>UP e,qm9 (mV _ _),trivial,λb hb=>?x (show b∈([]:?a2) from hb) ?K,hok,.of_eq hg]
  apply codeAny_mono ((F _ hKb (nsK hns)).run callerA [] s₁ H #[[.ref a],[]] [.ref a] [.ref a] _ _ hr e0 (hbind s₁ (.ref a)) (.cons rfl .nil) (KR H hO hS)) λr s' h=>?_;cases r with
  | error e=>exact(hCX H e s' h).elim
  | ok fl =>
    cases fl with
    | next=>exact ?dW h
    | brk=>exact ?dW h
    | cont=>exact ?dW h
    | ret u =>
      let#[v,H',os,bare,un,Bf4,r',q]:=h;have q':v=.bl true:=q;subst q';obtain rfl:u=Value.bool true:=r';apply#[rfl,OldK.of_keep λb o e=>?_,os,bare];cases q:H b with
      | none=>exact un.keep b o e q (by intro z;exact ?PF) ?K
      | some u =>
        rcases hO b with z|⟨ob,xs,z⟩
        . rw[q]at z;cases z
        . have z2:=un.frzs b ob _ z;let#[e1,_]:=hok b _ z;let#[e2,_]:=Bf4 b _ z2;rw[e]at e1;cases e1;exact e2
 cases hk:K.lookup a with
 | some o =>
   have e:=KX a o hk;rw[ha]at e;cases e;apply core (?g5) (λ_=>?rD) (?r #[_,?vB,_,hk,rfl,rfl,rfl,by rw[qd2,Bc6];exact hl,?JL]) (λb u z=>by have z':(none:?yL)=?L:=z;cases z') (λb z=>?N2) λz=>?N2
 | none =>
   apply core (λb=>if b=a then ?c (.frz ?s5 (?n ?gY)) else none) (λb=>?_) (?i (?r #[?s5,?S rfl])) (λb u z=>?_) (λb z=>?_) λ_=>hk
   . by_cases hb:b=a
     . exact ?r #[_,_,?S hb]
     . exact ?i (?G hb)
   . by_cases hb:b=a
     . have z':=(?S hb).symm.trans z;cases z';subst hb;exact#[ha,?IZ,vs,_,rv,ha]
     . have z':=(?G hb).symm.trans z;cases z'
   . by_cases hb:b=a
     . exact hb
     . exact ?x (?G hb) z
abbrev Ev(s:Stmt)(j:Nat):Stmt:=match s with
 | .ClassDef _ _ _ ?h4 _ _ _ _ _ _ _=>body.getD j (?TX)
 | _=>?TX
abbrev Ix(s:Stmt):Arguments:=match s with
 | ?vH _ a _ _ _ _ _ _ _ _=>a
 | _=>{ posonlyargs:=[],args:=[],vararg:=none,kwonlyargs:=[],kw_defaults:=[],kwarg:=none,defaults:=[] }
abbrev Go(s:Stmt):?f7:=match s with
 | ?vH _ _ b _ _ _ _ _ _ _=>b
 | _=>[]
abbrev As(s:Stmt):Scope:=match s with
 | ?vH _ _ _ _ _ _ sc _ _ _=>sc
 | _=>{ kind:=?j5,names:=[],isGenerator:=false,isCoroutine:=false }
noncomputable abbrev Eo:sX:=λ_ _ _ _ _ _=>False
noncomputable abbrev E0:XK:=?j6
def fF{X:Cx}:S3 Eo X E0:=λ_ _ _ _ _ _ _ h=>h.elim
structure Et[?d](x qual:Str)(st:Stmt)(f:Addr)(fd:FuncData):Prop where
 ex:∃(oc:Value) (od:OAddr) (kV doc pm:Value) (an:OAddr) (Dp ct:Value) (osl:Ro),
  fd=?rM/\?a2Q fd/\?xC
 kp:?lX
section
variable[?cG][?n5]
def Et.ok[?VF][?X0]
 (hbody:∀(Dp:Value) [?CH],?UT->?mV →
   ?RN):?SM:=by
 ext WI;apply Aw1 lk hcd S len λA outer s H vs Q E hr KR=>?_;let#[t,h,q]:=hbody Dp A ?aA s H vs Q E hr KR;exact#[t,h.nox,q]
def Et.okZ[?VF]
 (hbody:∀(Dp:Value) [?CH],?UT->?mV →
   ?RN) (len:?xS:=by intro vs H Q E h;(repeat (rcases h with⟨⟩;rename_i h));all_goals first | exact ?cT ?LJ (by assumption) | (subst_vars;rfl)):?SM:=F.ok S len hbody
def Et.binds[?XY][?D7](F:?U5)
 (h:∀(kV doc pm:Value) (an:OAddr) (Dp ct:Value) [?dI],?N9->?LB (?rM) ?v6=?aC ?n0):?z9:=by
 ext WI;exact .all (h kV doc pm an Dp ct)
def DH[?XY]{oc:Value}{od an:OAddr}{osl:Ro}{kV doc pm Dp ct:Value}(l:?a2Q (?rM))
 (c:?xC) (k:?lX):Et K x ?aX st f (?rM):=#[(?a1R l c),k]
universe e9
section
variable{X:Cx}
def pv(i:Nat){x:Str}[?W](hN:?jE:=by rfl)(hv:?rT:=by first | exact ?IJ | exact ?AR (?IJ) | exact ?AR (?AR rfl))[?jR]
 [?X8]:?GE:=zE hN hv hd hcd
universe e9
def ite2[?D9](h1:c->A)(h2:¬c->B):?xZ:=by
 by_cases h:c
 . rw[?S h];exact h1 h
 . rw[?jJ];exact h2 h
abbrev Same(H H':Hp):Prop:=∀b o,?QH
def Same.refl(H:Hp):?cC H H:=λ_ _ h=>h
def Same.trans{H H1 H2:Hp}(a:?kV)(b:?C4):?cC H H2:=λc o h=>b c o (a c o h)
def Same.free[?eE](e:?cS){l:Addr}(h:H' l=Option.none):H l=Option.none:=by
 cases q:H l with
 | none=>rfl
 | some o =>
   rw[e l o q]at h;cases h
def Same.seq[?H][?eE][?X][?bQ](e:?cS)(h:?e0):SqL K H' a xs:=by
 rcases h with(h|⟨o,h⟩) | h
 . exact ?i (?i (e _ _ h))
 . exact ?i (?r #[o,e _ _ h])
 . exact ?r h
abbrev aD(cells:?hB):?oV->?hB->?hB
 | [],acc=>acc
 | ?BA,acc=>aD cells r (if ?zG then(n,(?oX n).getD 0)::acc else acc)
def d8{sc:Scope}{env:Env}(h:∀n,?BJ->?ME):closureFor sc env=?a34 ?iL []:=by
 have all:∀(l:?oV) (acc:?hB),(∀n,?uJ∈l->?ME) →
  (forIn l acc λ(x:?S3) (cs:?hB)=>match x with
    | (?a0,kind)=>if ?a35 (?a0J kind) then(do let c ←cellOf env ?a0;?aC (?r6 ((?a0,c)::cs))) else ?aC (?r6 cs))=(?a34 l acc:Sem _):=by
  intro l
  induction l with
  | nil=>intro acc _;rfl
  | cons x r ih =>
    intro acc hl;let#[n,k]:=x;rw[List.forIn_cons];ext CR
    . ext XA
      subst hk';let#[c,hc]:=hl n qb1;have e1:cellOf env n=?aC c:=by unfold cellOf;rw[hc]
      simp only[beq_self_eq_true,if_true,e1,pure_bind];rw[?F9];show _=(?a34 r (if (?a0J NameKind.free)=true then ?K8 else acc):Sem _)
      rw[?S ?K,hc];rfl
    . have hk2:(?wI)=false:=?RM
      simp only[hk2,qs7,if_false,pure_bind];rw[?F9];show _=(?a34 r (if ?zG then ?K8 else acc):Sem _)
      rw[?gH]
 have:=all ?iL [] h;unfold closureFor;dsimp only;rw[this,pure_bind]
def G0[?XP]{c:Addr}:∀[?X1],(∀n,?uJ∈l->∃c,?oX n=?bE) →
 (acc.lookup x=?bE->?UG)->?a26 x->?UG
 | [],_,_,ha,h=>ha h
 | ?BA,acc,hl,ha,h=>by
   apply G0 (l:=r) (?IE) ?_ h;ext CR
   . rw[?jD];ext XA
     subst hk';let#[d,hd]:=hl n qb1;intro e;rw[qq8]at e;cases hx:x==n with
     | true =>
       rw[hx]at e;have hxn:x=n:=?oF
       subst hxn;rw[hd]at e ⊢;exact e
     | false=>rw[hx]at e;exact ha e
   . rw[?gH];exact ha
def f6[?XP]:∀[?X1],(?yK∈l\/∃c,acc.lookup x=?bE)->∃c,?a26 x
 | [],_,h=>by
   rcases h with h | h
   . exact ?r2
   . exact h
 | ?BA,acc,h=>by
   apply f6 (l:=r) ?_;ext CR
   . rw[?jD];by_cases hx:?a35 (x==n)
     . exact ?r #[(?oX n).getD 0,by rw[qq8,hx]]
     . have hx2:?a0I x n:=?oF
       rcases h with h|⟨c,h⟩
       . ext D3
         . have e1:x=n:=?cT Prod.fst e;exact ?x (by simp[e1]) hx
         . exact ?i e
       . exact ?r #[c,by rw[qq8,hx2];exact h]
   . rw[?gH];rcases h with h | h
     . ext D3
       . have e2:NameKind.free=k:=?cT Prod.snd e;exact ?x (by simp[←e2]) hk
       . exact ?i e
     . exact ?r h
abbrev Ft(X:Cx)[?DC](C:Addr)(s₀:Shared)(H₀:Hp)[?u9]:Cx where
 prog:=X.prog
 w:=X.w
 K:=X.K
 mg:=X.mg
 base:=X.base
 A:=X.A
 N:=N'
 s₀:=s₀
 H₀:=H₀
 env:=compEnvC sc (?xX) C ?g
 outer:=X.stack
 stack:=X.stack
 ex:=fp
 fn:=λ_=>false
 calm:=X.calm
 pn:=[]
 xe:=?gN
abbrev jI[?tX](σ:St):St:=cap.map ?QD
structure Wx(X:Cx)[?DC][?tX]:Prop where
 kind:?sW
 len:?J7
 nocell:?LR
 locals:∀x∈sc.names,?J5
 free:∀n,?BJ->?lZ n=?aW\/?lZ n=?cP
 slots:∀(i j:Nat) (x:Str),N'[i]?=?bH->?a2K cap (?dX)->X.N[j]?=?bH/\(?IF)/\?rT
section
variable[?n3][?z]{C:Addr}[?dJ]
def Wx.cells[?u4](ok:X.Ok):∀n,?BJ->∃c,?pM n=?bE:=λn hn=>ok.has n (c.free n hn)
def Ld{env:Env}{x:Str}{k:NameKind}(hnc:?LR)(h:(relabel sc env).names.lookup x=?c k)(hk:k=?rY\/k=?kU):?RI:=by
 have all:∀(l:?oV),(∀x∈l,?B9)->(l.map λ ?gD=>if (?wI&&?M8&&?IQ) then ?BP else ?gD).lookup x=?c k->?yK∈l:=by
  intro l
  induction l with
  | nil=>intro _ h;exact ?r2
  | cons p r ih =>
    intro hn h;let#[n,q]:=p;rw[qd3,qq8]at h;by_cases hc:?a35 (?a0J q&&?M8&&?IQ)
    . have hq:q=NameKind.free:=by
       have:=hc;simp only[qc3]at this;simpa using this.1.1
      simp only[hc,if_true]at h;cases hx:x==n with
      | true =>
        have e:x=n:=?oF
        rw[e,hq];exact qb1
      | false =>
        rw[hx]at h;ext X4
    . simp only[hc]at h;cases hx:x==n with
      | true =>
        have e:x=n:=?oF
        simp only[qs7,if_false,hx]at h;have e2:q=k:=?v9
        rcases hk with z | z
        . exact ?x (e2.trans z) (hn (n,q) qb1)
        . rw[e,←z,←e2];exact qb1
      | false =>
        simp only[qs7,if_false,hx]at h;ext X4
 exact all ?iL hnc h
def VQ[?u4][?e](hC:?vX)[?hJ][?XN]:(?KX).Ok where
 mod:=I.ok.mod
 kind:=c.kind
 glob:=I.ok.glob
 blt:=I.ok.blt
 above:=hC
 inj:=λx y a hx hy=>?UM x y a (?ZM hx) (?ZM hy)
 has:=λx hx=>by
  apply f6 (?i ?_);rcases hx with hx | hx
  . exact Ld ?m8 hx ?dM
  . exact Ld ?m8 hx (?r rfl)
 cab:=λ_ _ h=>?r2
 hd:=I.ok.hd
 frames:=I.ok.frames
 stk:=?rD
 exf:=λb hb'=>#[?a0E (?EG) hC,λx a e=>(?pQ).2.2.2.2.1 x a (?uP)]
 bs:=I.bs
 bsz:=?FM
 noex:=λb o e hb'=>by
  rcases (?pQ).2.2.2.1 with z | z
  . exact ?yB b o e z
  . exact ?ZD ?e3 (qa5 ?AA z)
 exfs:=λb hb' z=>by
  let#[_,f1,f2,_]:=?pQ;rcases ?zB with e | e
  . exact f1 e
  . exact f2 e
 funs:=I.stack
 frf:=I.stkFree
def RW[?u4][?e]{D:Addr}{h1:Heap}{t:Nat}(hC:C=?f8)(hD:?a1S D)[?hJ][?XN]
 (hn:h1.Ns C ?g5) (hl:?rW D=?a1G 0) (k:∀b o,?cY->?rW b=?l) :
 Bm (?KX) [] ?t0 (?YL D ?f1) { s with heap:=h1,toks:=t }:=by
 have hCs:?vX:=?R2
 have hCD:C≠D:=by rw[hC,hD];exact qu4 _
 have ok:=VQ (C:=C) (fp:=fp) c I hCs hf hb;have hDn:?i0:=by rw[hD];exact I.fresh
 have ltc:∀x a,(?xX).lookup x=?oU->?FW:=λx a e=>?uP;have cel:∀a v,?oA a v->h1.IsCell a v:=λa v ?v3=>#[o,k a o ho,hd]
 have ltD:∀a v,?oA a v->a≠D:=λa v ?v3=>?a20 ?A1
 apply#[ok,rfl,?c5,Un.laid k (?a20 ?e6) hDn,#[_,hn,?NG],?HV,?_,?HV,?L2,?_,?_]
 . have e2':cap[i]?.map (?QD)=?yX:=by
    have:=e2;unfold jI at this;rw[qb4]at this;exact this
   cases hc:cap[i]? with
   | none=>rw[hc]at e2';cases e2'
   | some o =>
     rw[hc]at e2';cases o with
     | none=>cases e2'
     | some j =>
       have e4:?P5=?A:=by simpa using e2'
       let#[q1,q2',q3]:=c.slots i j x e1 hc;have q2:?RI:=q2'.elim (λz=>Ld ?m8 z ?dM) λz=>Ld ?m8 z (?r rfl);let#[m,hm,hl']:=I.loc
       have e5:σ[j]?=?yX:=by
        cases z:σ[j]? with
        | none=>rw[z]at e4;cases e4
        | some y=>rw[z]at e4;cases y with
          | none=>cases e4
          | some y'=>cases e4;rfl
       let ?vJ:=hl' j x v q1 e5 q3;apply ?HF;let#[a,ha]:=f6 (cells:=X.env.cells) (l:=sc.names) (acc:=[]) (x:=x) (?i q2);have kd:?PB:=c.free x q2;rcases l with⟨hk,_⟩|⟨hk,a',ha',hcell⟩
       . rcases kd with z | z<;>rw[z]at hk<;>cases hk
       . have e6:a'=a:=by
          have:=ltc x a ha;rw[ha']at this;exact ?KO
         apply ?r #[q2',a,ha,?_];rw[←e6];exact cel _ _ hcell
 . let ?BL:=?GZ;exact#[v,cel a v z]
 . show upd H D ?f1 C=none;rw[Ak hCD];exact ?hR hCs
 . show upd H D ?f1 a=none;let ?BL:=?GZ;rw[Ak (ltD a v z)];exact ?d5 x a (ltc x a e)
 . exact ?FT k (?a20 ?e6) #[?mJ,[],0,?u,hl]
 . show(?JO).length=N'.length;unfold jI;rw[qa2,c.len]
universe e9
abbrev vS(uN:Scope)(N:?E)[?DC][?tX]:Bool :=
 ?s (?sW)&&?s (?J7)&&?zO (λx=>?s (?B9))&&?zO (λx=>?s (?J5)) &&
 ?zO (λx=>?s (x.2=NameKind.free->(?m6 x.1=?aW\/?m6 x.1=?cP))) &&
 (?zD).all (λp=>match p.2 with
   | none=>true
   | ?dX=>?s (N[j]?=?c p.1)&&?s ((?YF ?aW) ∨
      (?YF ?cP)) &&
     ?s (?B7=?e1\/?B7=?aW\/?B7=?cP))
def LC[?n3](h:?JI):?sR:=by
 unfold vS at h;rw[qc3,qc3,qc3,qc3,qc3,qd8,qd8,qd8,qd8]at h;let#[#[#[#[?z4,h3],h4],h5],h6]:=h;apply#[qd5 h1,qd5 h2,λx hx=>qd5 (h3 x hx),λx hx=>qd5 (h4 x hx),λn hn=>qd5 (h5 _ hn) rfl,λi j x e1 e2=>?_]
 have hm:(x,?dX)∈?zD:=by
  have e:?a2K (?zD) (x,?dX):=by
   rw[List.getElem?_zip_eq_some];exact#[e1,e2]
  exact qb3 e
 have h7:=h6 _ hm;dsimp only at h7;rw[qc3,qc3]at h7;let#[#[h8,h9],h10]:=h7;exact#[qd5 h8,qd5 (p:=?IF) h9,qd5 (p:=?YP ?e1\/?YP ?aW\/?YP ?cP) h10]
abbrev PTs(X:Cx)(ifs:?eW)(t:TT):Prop :=
 ∀[?P] [?k1],?D->?j7 →
   ?f ?k X.A (forIn ifs ?d8 λc r=>if ?a35 r then do let ok ←?BR c ?g (?a2S c);?aC (?r6 ok) else ?aC (?r6 r)) (TP X Ae σ Q) ?m s
abbrev LU:TT:=?a1F ?d8
def By{X:Cx}:PTs X [] LU:=?ZH wpAny_tests_nil #[H,I,h]
def Ql{X:Cx}{c:Expr}{t:TT}(h:PT X c t):PTs X [c] t:=?a04 wpAny_tests_one
abbrev Qf(J:It)(g:TG)(tc:TT)(te:TE)(D:Addr)(Q:?a6)(τ:St)(H:Hp):Prop :=
 ∃W:Nat->?DP,(∃m,W 0 m [] τ H)/\∀i m ys τ H,W i m ys τ H →
   (?y8/\Q H) ∨
   (?x6/\∃N:?E6,(∀ys' τ' H',N ys' τ' H'->∃m',m'<m/\W ?b4 m' ys' τ' H') ∧
     ∀x H',?PJ->g x τ H' λτ2 H2=>tc τ2 H2 λb H3=>if ?lN then te τ2 H3 (?a06 τ2) else N ys τ2 H3)
section
variable[?n3][?XQ][?W][?k6]{te:TE}
def NR{Y:Cx}{J:It}[?dJ]{it D:Addr}{tn:?p5}{R:?vT}{Q:?a6}{τ:St}{H:Hp}[?a5]
 (hx:Y.xe=?gN) (hc:?a35 Y.calm) (hg:PG Y tg g) (ht:PTs Y ifs tc) (he:PE Y elt te) (T:Xe Y.prog Y.w Y.K tg J fp it tn) (st:?Q1) (hf:∀b∈fp,Ml Y [] H b) (I:Bm Y [] τ H s)
 (h:?Y3 J tc) (hR:∀τ' H' s',?T6->Q H'->R (.ok .next) s') :
 ?f6 (?kZ Y.prog Y.w) Y.A (?EV ?eR 0 ?dD ?dA Y.env) R s:=by
 let#[W,?PZ,turn]:=h;have HR:∀{H':Hp},?iF->∀b∈fp,Ml Y [] H' b:=λhn b hb=>#[hn b hb,(?q1).2]
 have no:∀{P:Prop}{e:Value}{s':Shared},Y.xe e s'->P:=λz=>by rw[hx]at z;exact z.elim
 apply codeAny_loop rfl (λn s'=>∃i ys τ' H',?T6/\?UH/\?iF/\W i n ys τ' H') ?_ m0 #[0,[],τ,H,I,st,?oD,w0];rintro n s3 ⟨i,ys,τ3,H3,I3,st3,tG,w3⟩;show ?f _ Y.A ((compTurn ?eR 0 ?dD ?dA Y.env).onRaise (λx=>do noteFrame x Y.env;theTreesLotGoes x)) _ _ s3;apply wpAny_noted ?_;rw[compTurn_list];apply ?a0Z ?y1 ?_;rcases turn i n ys τ3 H3 w3 with⟨stop,qn⟩|⟨go,N,hN,step⟩
 . apply qn9 (T.done Y rfl rfl rfl hc i [] s3 τ3 H3 (?gN) I3 ?t2 st3 stop) (?qG) ?v4;let ?ND:=_z;subst hr;exact qc9 (hR _ _ _ I4 qn)
 . apply qn9 (T.item Y rfl rfl rfl hc i [] s3 τ3 H3 (?gN) I3 ?t2 st3 go) (?qG) ?v4;let ?UK:=_z;subst hr;apply qa7 (qn9 h4 (?KB) ?v4);ext VP
   have again:∀{τ7:St}{H7:Hp}{ys7:?q}{s7:Shared},Bm Y ([]++?NU) τ7 H7 s7->N ys7 τ7 H7->∃m,m<n/\∃i ys τ' H',Bm Y [] τ' H' s7/\?KQ/\?iF/\W i m ys τ' H':=λ{τ7 H7 ys7 s7} I7 n7=>by
    let ?DU:=hN ys7 τ7 H7 n7;apply#[m',hm,i+1,ys7,τ7,H7,?r7,?SS,?h8,w7];ext VK
   apply qa7 (qn9 (hg _ s5 τ3 H5 x u _ I5' r5 (step x H5 y5)) (λ_ s6 _z=>?_) λ_ _ z=>no z);let#[τ6,H6,I6,q6]:=_z;apply qa7 (qn9 (ht _ s6 τ6 H6 _ I6 q6) (λok s7 _z=>?_) λ_ _ z=>no z);let#[H7,I7,q7]:=_z;cases ok with
   | false =>
     have q8:N ys τ6 H7:=?KT
     exact qc9 #[rfl,again I7 q8]
   | true =>
     have q8:te τ6 H7 (?a06 τ6):=?KT
     apply qa7 (qa7 (qn9 (he _ s7 τ6 H7 _ I7 q8) (λy s8 _z=>?_) ?GU));let#[v8,H8,I8,r8,hD,hl,n8]:=_z;apply qa7 (qn9 (Kd _ s8 τ6 H8 ?dA [v8] ?dA [y] (λ_ H9=>N (ys++[v8]) τ6 H9) I8 rfl (?F r8 ?u) #[D,ys,v8,rfl,rfl,hD,hl,n8]) (λ_ s9 _z=>?_) ?GU);let#[_,H9,I9,_,n9]:=_z;exact qc9 (qc9 #[rfl,again I9 n9])
def d6[?z]{J:It}[?dJ]{it:Addr}{tn:?p5}{RR:?aZ->?gJ->?vT}{Q:?gJ->?a6}[?T]
 [?u4] [?bN] [?V2]
 [?e] (T:?OZ) (st:?Q1) [?hJ]
 (h:∀D,?i0->Qf J g tc te D (Q D) ?t0 (?YL D ?f1))
 (hR:∀D C s' H' m',?i0->?vX->?AT->?lD->?a22 fp ?dZ->?I8->s'.heap.Ns C m'->H' C=none->C ∉ fp->Q D H'->RR ?dA C (.ok .next) s') :
 ?f ?k X.A (newList []) (λacc s₃=>?f ?k X.A (newFunctionEnv sc X.env.globals (?xX) [] X.env.qual ?a9 ?aJ (?c ?g)) (λcenv s₄ =>
  ?f6 ?k X.A (.compStart ?eR 0 ?dD acc { cenv with scope:=?vV }) (RR acc cenv.locals) s₄) E s₃) E s:=by
 have hb:?FX:=λb hb=>by
  let ?LD:=T.obj _ _ st b hb;ext bC
 apply wpAny_newObj_type (wpAny_newFunctionEnv ?m8 (by intro y hy;simp at hy) (λh₁ Ab4 vF=>?_) ?zN);dsimp only at Ab4 vF ⊢;generalize hH2:?kO { cls:=?b5,dict:=none,data:=?aK ([]:?w).toArray }=H2 at Ab4 vF ⊢;have hC:H2.objs.size=?f8:=by rw[←hH2,qi4]
 have hCl:?Z6 H2.objs.size:=?R2
 have hCn:s.heap.objs.size≠H2.objs.size:=by rw[hC];exact(qu4 _).symm
 have old:∀b o,?cY->?FH b=?l:=λb o e=>by
  have l1:=qc1 e;exact ?H6 b o (?a0E l1 hCl) (qa6 _ (hH2▸ ?hY))
 have hl:?FH ?v=?a1G 0:=?H6 _ _ hCn (qa6 _ (hH2▸ ?g2));have Bf6:h₁.Ns ?xQ ?g5:=by simpa using Ab4
 have I4:Bm (?pX) [] ?t0 (?YL ?v ?f1) ?N7:=RW c I hC rfl hf hb Bf6 hl old;have hfr:?mZ:=I.fresh
 have f4:∀b∈fp,Ml (?pX) [] (?YL ?v ?f1) b:=λb hb'=>by
  let ?NR:=?pQ;have lb:=?EG;apply#[by rw[Ak (qe3 lb)];exact f0,(?a0E lb hCl:b≠H2.objs.size),λz=>?_,?i hb',λx a e=>f4 x a (?uP),?L2];rcases ?zB with e | e
  . exact f1 e
  . exact f2 e
 have st4:tn 0 h₁:=T.keep _ _ _ st λb _ o e=>old b o e
 have loop:∀s₅:Shared,s₅=?N7 →
  ?f6 ?k X.A (?EV ?eR 0 ?dD ?iD (?pX).env) (RR ?iD ?xQ) s₅:=by
  rintro s₅ rfl;apply NR (Y:=?pX) (J:=J) (fp:=fp) (tn:=tn) (Q:=Q ?v) rfl hc (hg _ _ _ _) (ht _ _ _ _) (he _ _ _ _) T st4 f4 I4 (h _ hfr) λτ' H' s' I' q'=>?_;let#[m',hn',_]:=I'.loc;exact hR _ _ s' H' m' hfr hCl I'.os I'.bare I'.base I'.hok hn' I'.free (λz=>?ZD (hb _ z) hCl) q'
 exact codeAny_compStart_list (loop _ rfl) (T.self _ 0 _ _ _ st4 (loop _ rfl))
abbrev wO(wi:TI)[?tX](g:TG)(tc:TT)(te:TE):TE:=λσ H Q=>wi σ H λJ H1=>∀D,H1 D=none->Qf J g tc te D (λH'=>?q7) ?t0 (upd H1 D ?f1)
def Bm.fpCh{Ae:Bi}{H:Hp}[?dJ][?hJ]:∀b∈fp,?SO :=
 λb hb=>let #[_,f1,_,f3,f4,f5]:=?q1;#[f3,f1,f4,f5]
def Bt{wi:TI}[?bN][?WC](hg:?RQ)(ht:?ER)
 (he:?JR) [?CI]:?ZP ?eR (wO wi cap g tc te):=by
 ext Q;have c:?sR:=LC hcap;rw[eval_ListComp];apply ?EF (use:=none) rfl hs ?HG ?zN ?IT (?Y9 h);ext WO;apply d6 (RR:=?a2E ?a9 ?bK) (Q:=λD H'=>?q7) c hc hg ht he I2 T st2 f2 hW ?_;intro D C s' H' m' hD hC hos hbare hun hok hn hHC hCf q;apply#[m',hn,λh' Rf=>?_];ext V6;have I4:Bm X Ae σ H' { s' with heap:=h' }:=I3.turned (t':=s'.toks) (λb o hb e=>(?cZ b hb).trans e) hHC k1 k3 k4 k5;exact#[?j D,H',I4,rfl,q]
def cI{wi:TI}[?fR]{px spos:Pos}(hN:X.N.Nodup)(hi':?jE)(hx:?AO)[?bN][?WC]
 [?V2]
 (hsw:?lS ?eR (?c (?hU)) spos.line ?g=?aC ?d8:=by rfl)
 [?CI] [?hE] :
 PS X (?m5 [?hU] ?eR spos) (OY (wO wi cap g tc te) ?C8):=by
 ext hK;have c:?sR:=LC hcap;rw[exec_Assign_Name_used _ _ _ _ hsw];apply ?a0Z ?y1 ?_;show ?f _ X.A (do let _ ←comprehension ?eR sc ?g _ (newList []) ?cO (?a2S iter) (?a3A ?g)) _ _ s
 apply qa7 (D9 (?EF (use:=?a3A ?g) (Q:=?J4) rfl hs ?HG ?zN ?IT
  (?Y9 h)) λ_ s' hq=>qc9 (qc9 hq))
 ext WO;apply d6 (RR:=?a2E (?a3A ?g) (?J4)) (Q:=λA H'=>Z6 i (?j A) σ H' ?iC) c hc hg ht he I2 T st2 f2 hW ?_;intro A C s' H' m' hD hC hos hbare hun hok hn hHC hCf q;ext V6;show ?f _ X.A (?eQ (?hU) ?g (?j A)) _ _ s';apply ?QW (aM I3 hN hi' hx (v:=?j A) rfl (λs'' I'' _z=>?_) hf);let#[a,Rf,ha]:=_z
 have hCa:C≠a:=by
  rcases ha with z | z
  . rw[z];exact k1
  . exact λz'=>k4 x a z z'.symm
 apply#[m',?T4 Rf hCa,λh' Be8=>?_];have I4:Bm X Ae (σ.set i (?c (?j A))) H' { s'' with heap:=h' }:=I''.turned (t':=s''.toks) (λb o hb e=>(Be8.2 b hb).trans e) hHC k1 k3 k4 k5;exact#[_,H',I4,q]
universe e9
section
variable[?k6][?fI]
def Qw[?fN][?cF][?CL]
 [?UY]
 [?jS]:?Y3 ?qR tc:=by
 ext CC;ext CS;have q:=?N4;ext jY
 . ext CA;ext WE
 . ext jZ
   ext WQ
def rW[?fN][?cF][?WJ]
 [?UY]
 [?jS]:?Y3 ?pI tc:=by
 ext CC;ext CS;have q:=?N4;ext jY
 . ext CA;ext WE
 . ext jZ
   ext WQ
def Ik{lo:Int}{n:Nat}[?cF]
 (hs:?a0N ?vN)
 [?XO]:?Y3 (?iQ) tc:=by
 apply#[λi m ys τ H=>m=n-i/\?g7/\?cU,?uQ,?_];ext CS;by_cases hlt:i<n
 . apply ?a1C hlt ?GN;let ?pP:=y;subst e y;exact hs i ys τ _ hlt p
 . have e:i=n:=O9m
   subst e;exact ?i #[?e6,?TQ]
universe e9
universe L2
namespace L2
open PySem PySem.Spec PyProof.Rows PySem.SeqAt
inductive D where
 | non | bl (b:Bool) | int (i:Int) | str (x:Str) | tup [?nM] | lst [?nM]
mutual
abbrev Rep[?d](H:Hp):?YC V D
 | v,?t=>v=?t
 | v,?bD=>v=?bD
 | v,?B=>v=?B
 | v,?f5=>v=?f5
 | v,?h1=>∃a vs,?f9/\SqT K H a vs/\?fD
 | v,?sX=>∃a vs,?f9/\?YV a vs/\?fD
 abbrev Reps[?d](H:Hp):?YC ?q ?aM
 | vs,[]=>?pN
 | vs,?h3=>∃v r,vs=v::r/\?eL/\?a03 r ds
end
mutual
abbrev imm:?vR
 | ?o6=>false
 | ?h1=>?C1
 | _=>true
abbrev imms:?RH
 | []=>true
 | ?h3=>imm d&&?C1
 end
mutual
abbrev dep:D->Nat
 | ?sX=>?eK+1
 | ?h1=>?eK+1
 | _=>0
abbrev deps:?aM->Nat
 | []=>0
 | ?h3=>max (?pH) (?eK)
end
mutual
abbrev eqD:D->?vR
 | ?t,?t=>true
 | .bl a,?bD=>a==b
 | .bl a,?iJ=>(if a then 1 else 0)==b
 | ?h a,?bD=>a==(if b then 1 else 0)
 | ?h a,?iJ=>a==b
 | ?bB a,?bB b=>a==b
 | ?M a,?M b=>?mF
 | ?n a,?n b=>?mF
 | _,_=>false
abbrev eqDs:?aM->?RH
 | [],[]=>true
 | a::r,b::q=>eqD a b&&eqDs r q
 | _,_=>false
end
mutual
def P9(d:D):eqD d d=true:=by
 cases d with
 | non=>rfl
 | bl b=>simp[eqD]
 | int b=>simp[eqD]
 | str b=>simp[eqD]
 | tup ds=>simp only[eqD];exact ?AV ds
 | lst ds=>simp only[eqD];exact ?AV ds
def eqDs_refl[?nM]:eqDs ds ds=true:=by
 cases ds with
 | nil=>rfl
 | cons d r=>simp only[eqDs,qc3];exact#[P9 d,?AV r]
end
def eqDs_len:∀{a b:?aM},?a35 ?mF->?rP
 | [],[],_=>rfl
 | [],?gS,h=>?G7
 | ?gS,[],h=>?G7
 | x::a,y::b,h=>by
   simp only[eqDs,qc3]at h;rw[qe4,qe4,?LS h.2]
def P8:∀(a b:?aM),?rP->?mF=(?fX a.length).all λj=>match a[j]?,b[j]? with | ?bH,?lC=>eqD x y | _,_=>true
 | [],[],_=>by simp[eqDs]
 | [],?gS,h=>?gM
 | ?gS,[],h=>?gM
 | x::a,y::b,h=>by
   have h':?rP:=?v9
   rw[qe4,List.range_succ_eq_map,qx1,qq5];simp only[eqDs,P8 a b h']
   congr 1
structure i8(H H':Hp):Prop where
 tup:?rI
 frz:?wY
section
variable[?H]{H H' H1 H2:Hp}{a l p:Addr}[?bQ]{o:HO}
def Same.t[?uD]:?nZ:=#[λb xs h=>x b _ h,λb o u h=>x b _ h]
def i8.lst(h:?rB):i8 H (?YL l o):=#[λb ys e=>?MZ,λb ob u e=>?MZ]
def Same.new(h:?qT):?cC H (?YL l o):=λb u e=>by rw[Ak (At e h)];exact e
def Same.turn(x:?kV)(h:?qT):?cC H (upd H1 l o):=λb u e=>by rw[Ak (At e h)];exact x b u e
def SqT.t(x:?nZ)(h:?e4):?GK:=by
 rcases h with(h|⟨o,h⟩) | h
 . exact ?i (?i (x.tup _ _ h))
 . exact ?i (?r #[o,x.frz _ _ _ h])
 . exact ?r h
def Same.seqT[?uD](h:?e4):?GK:=h.t x.t
mutual
def Rep.t(x:?nZ){v:V}{d:D}(hi:imm d=true)(h:?eL):?KG:=by
 cases d with
 | non=>exact h
 | bl b=>exact h
 | int i=>exact h
 | str x=>exact h
 | tup ds =>
   ext nD;exact#[a,vs,e,q.t x,Reps.t x (by simpa[imm]using hi) r]
 | lst ds=>simp[imm]at hi
def Reps.t(x:?nZ)[?hL](hi:?a35 ?C1)[?DH]:?NH:=by
 cases ds with
 | nil=>exact h
 | cons d r =>
   let ?JH:=h;simp only[imms,qc3]at hi;exact#[v,q,e,Rep.t x hi.1 h1,Reps.t x hi.2 h2]
end
mutual
def Rep.same[?uD]{v:V}{d:D}(h:?eL):?KG:=by
 cases d with
 | non=>exact h
 | bl b=>exact h
 | int i=>exact h
 | str x=>exact h
 | tup ds =>
   ext nD;exact#[a,vs,e,x.seqT q,?AS x r]
 | lst ds =>
   ext nD;exact#[a,vs,e,x.seq q,?AS x r]
def Reps.same[?uD][?hL][?DH]:?NH:=by
 cases ds with
 | nil=>exact h
 | cons d r =>
   let ?JH:=h;exact#[v,q,e,?G0 x h1,?AS x h2]
end
def Reps.length:∀[?hL],?fD->vs.length=ds.length
 | vs,[],h=>by ext D4;rfl
 | vs,?h3,h=>by
   let ?MI:=h;rw[qe4,qe4,Reps.length h2]
def Reps.get:∀[?hL]{i:Nat}{d:D},?fD->?BT->∃v,?kD/\?eL
 | vs,[],i,d,h,e=>?zJ
 | vs,?w8,0,d,h,e=>by
   let#[v,r,rfl,h1,_]:=h;simp only[List.getElem?_cons_zero,Option.some.injEq]at e;subst e;exact#[v,?aH,h1]
 | vs,?w8,i+1,d,h,e=>by
   let ?MI:=h;let ?OD:=Reps.get (i:=i) h2 (?gA);exact#[u,by simpa using e1,e2]
def Reps.getV:∀[?hL]{i:Nat}{v:V},?fD->?kD->∃d,?BT/\?eL:=λ{vs ds i v} h e=>by
 have hl:=h.length;have hi:?zV:=?M6;obtain⟨d,hd⟩:∃d,?BT:=#[ds[i]' ?fA,?d6]
 let ?OD:=h.get hd;rw[e]at e1;cases e1;exact#[d,hd,e2]
def Reps.append:∀{vs ws:?q}{ds es:?aM},?fD->?a03 ws es->?a03 (vs++ws) (ds++es)
 | vs,ws,[],es,h,h'=>by ext D4;exact h'
 | vs,ws,?h3,es,h,h'=>by
   let ?IV:=h;exact#[v,r++ws,rfl,h1,Reps.append h2 h']
def Reps.one{v:V}{d:D}(h:?eL):?a03 [v] [d]:=#[v,[],rfl,h,rfl]
def Reps.snoc[?hL]{v:V}{d:D}[?DH](h':?eL):?a03 (vs++[v]) (ds++[d]):=h.append (.one h')
def Reps.take:∀[?hL] (n:Nat),?fD->?a03 (vs.take n) (ds.take n)
 | vs,ds,0,h=>by simp[Reps]
 | vs,[],n+1,h=>by ext D4;simp[Reps]
 | vs,?h3,n+1,h=>by
   let ?IV:=h;exact#[v,r.take n,rfl,h1,Reps.take n h2]
abbrev Fg[?eD]:?aM:=?d4 D.int
noncomputable abbrev tI[?eD]:D:=?M ?mT
def BF:∀ns:?aV,imms ?mT=true
 | []=>rfl
 | ?sE=>by show ?a35 (imm (?eN)&&imms ?mT);rw[BF ns];rfl
def Aa7[?eD]:imm (tI ns)=true:=BF ns
def gC:∀xs:LLInt,imms ?mA=true
 | []=>rfl
 | x::xs=>by show ?a35 (imm (tI x)&&imms ?mA);rw[gC xs,Aa7];rfl
def Ey:∀[?fV][?fT],?a03 vs ?mT↔vs=?zS
 | vs,[]=>Iff.rfl
 | vs,?sE=>by
   constructor
   . rintro ⟨v,r,rfl,h1,h2⟩;have HB:v=?eN:=h1;rw[HB,Ey.mp h2];rfl
   . rintro rfl;exact#[?eN,?zS,rfl,rfl,?MU]
universe e9
section
variable{X:Cx}[?z]
def kL[?e][?X][?nK][?DI](h':?JV):False:=by
 let#[its,r,#[o,e,c,n,d],_]:=?eH h;let#[?eY,r',#[o',n',e',c',_,d'],_]:=?b9 h';rw[e]at e';cases e';rw[c]at c';have z:(?gW:String)=?dP:=by injection c'
 exact ?x z ?d3
mutual
def Rep.inj[?e]{v:V}{d e:D}(h:Rep X.K H v d)(h':?x2):d=e:=by
 cases d with
 | non=>cases (show v=?t from h);cases e<;>first | rfl | (exfalso;first | (cases (show V.non=_ from h')) | ext tP)
 | bl b=>cases (show v=?bD from h);cases e<;>first | (cases (?YU V.bl);rfl) | (exfalso;first | (cases (?YU V.bl)) | ext tP)
 | int b=>cases (show v=?iJ from h);cases e<;>first | (cases (?YU ?a8);rfl) | (exfalso;first | (cases (?YU ?a8)) | ext tP)
 | str b=>cases (show v=?bB b from h);cases e<;>first | (cases (?YU V.str);rfl) | (exfalso;first | (cases (?YU V.str)) | ext tP)
 | tup ds =>
   let#[a,vs,rfl,q,r]:=h;cases e with
   | tup es =>
     ext tM;have e1:=?JS q q';subst e1;rw[?NZ]
   | lst es =>
     ext tM;exact(kL I q q').elim
   | non=>ext fK
   | bl _=>ext fK
   | int _=>ext fK
   | str _=>ext fK
 | lst ds =>
   let#[a,vs,rfl,q,r]:=h;cases e with
   | lst es =>
     ext tM;have e1:=?rL q q';subst e1;rw[?NZ]
   | tup es =>
     ext tM;exact(kL I q' q).elim
   | non=>ext fK
   | bl _=>ext fK
   | int _=>ext fK
   | str _=>ext fK
 def Reps.inj[?e][?fV]{ds es:?aM}(h:?kS)(h':?aB X.K H vs es):ds=es:=by
 cases ds with
 | nil =>
   cases (show vs=[] from h);cases es with
   | nil=>rfl
   | cons e es=>ext n7
 | cons d ds =>
   let#[v,r,rfl,h1,h2]:=h;cases es with
   | nil=>cases (show v::r=[] from h')
   | cons e es =>
     let#[v',r',z,HB,h2']:=h';cases z;rw[?z1 I h1 HB,?GR I h2 h2']
end
abbrev EqD(X:Cx)(H:Hp)[?bR](d:D):Prop:=∀[?k7] (x y:V) (u v:Value) (e:D),?a13 ?pH->?A5->Rep X.K H y e->?c7->?wO->RcAt A s u v (eqD d e)/\EqAt A s u v (eqD d e)
def cD[?e]{ds es:?aM}{vs ws:?q}{us us':?w}[?V](hu:?F4)(r:?kS)(r':?aB X.K H ws es)(rv:?gX)(kF:?N ws us')
 (ih:?LI) (hdm:∀d∈ds,?EJ):∀j (h1:j<us.toArray.size) (h2:j<us'.toArray.size),EqAt A s ?J8 ?Q9 (match ds[j]?,es[j]? with | ?bH,?lC=>eqD x y | _,_=>true):=by
 intro j h1 h2;have l1:=r.length;have l2:=r'.length;have l3:=rv.length;have l4:=kF.length;have HB:j<us.length:=?r8
 have h2':j<us'.length:=?AX
 have e1:ds[j]?=?c (?EB):=?d6
 have e2:es[j]?=?c (es[j]' ?fA):=?d6
 let#[v,ev,rd]:=?lB e1;let#[w,ew,re]:=r'.get e2;let#[u,eu,ru]:=?hV ev;let#[u',eu',ru']:=kF.get ew
 have f1:?J8=u:=by
  have:us[j]?=?c us[j]:=?aH
  rw[eu]at this;have:=?OC;ext k4
 have f2:?Q9=u':=by
  have:us'[j]?=?c us'[j]:=?aH
  rw[eu']at this;have:=?OC;ext k4
 rw[f1,f2,e1,e2];have hm:?EB∈ds:=qf0 _;exact(ih _ hm A v w u u' _ (by have:=hdm _ hm;omega) rd re ru ru').2
def Qu:∀{ds:?aM}{d:D},d∈ds->?EJ
 | ?w8,d,h=>by
   simp only[deps];rcases ?qD with rfl | h
   . omega
   . have:=Qu h;omega
def Qk{a b:?aM}(h:¬?rP):?mF=false:=by
 cases q:eqDs a b with
 | false=>rfl
 | true=>exact ?x (?LS q) h
mutual
def iY[?e](d:D):?QC:=by
 intro A x y u v e hu hx hy rx ry;cases d with
 | non =>
   cases (show x=.non from hx);cases (show u=Value.none from rx);cases e with
   | non=>ext jP;exact#[?OG,?xU]
   | bl b=>ext jM;exact#[.none_bool b,.none_bool b]
   | int i=>ext jV;ext eB;exact#[?yW,?yW]
   | str z=>ext jX;ext eB;exact#[?AU,?AU]
   | tup es=>ext fP;ext fH;exact#[?BZ,?BZ]
   | lst es=>ext fP;ext fJ;exact#[?yY,?yY]
 | bl c =>
   cases (show x=.bl c from hx);cases (show u=Value.bool c from rx);cases e with
   | non=>ext jP;exact#[.bool_none c,.bool_none c]
   | bl b=>ext jM;exact#[?y0,?y0]
   | int i=>ext jV;ext eB;exact#[?A4,?A4]
   | str z=>ext jX;ext eB;exact#[?BY,?BY]
   | tup es=>ext fP;ext fH;exact#[?B4,?B4]
   | lst es=>ext fP;ext fJ;exact#[?B3,?B3]
 | int c =>
   cases (show x=.int c from hx);let#[t,rfl]:=rx;cases e with
   | non=>ext jP;exact#[?zT,?zT]
   | bl b=>ext jM;exact#[?wA,?wA]
   | int i=>ext jV;ext o;exact#[?C0,?C0]
   | str z=>ext jX;ext o;exact#[?wD,?wD]
   | tup es=>ext fP;ext fH;exact#[?wT,?wT]
   | lst es=>ext fP;ext fJ;exact#[?AE,?AE]
 | str c =>
   cases (show x=.str c from hx);let#[t,rfl]:=rx;cases e with
   | non=>ext jP;exact#[?wW,?wW]
   | bl b=>ext jM;exact#[?B0,?B0]
   | int i=>ext jV;ext o;exact#[?yG,?yG]
   | str z=>ext jX;ext o;exact#[?zL,?zL]
   | tup es=>ext fP;ext fH;exact#[?B5,?B5]
   | lst es=>ext fP;ext fJ;exact#[?uS,?uS]
 | tup ds =>
   ext X5;let ?j2:=?eH q;ext W0
   cases e with
   | non=>ext jP;exact#[?BK,?BK]
   | bl b=>ext jM;exact#[?xB,?xB]
   | int i=>ext jV;ext o;exact#[?y5,?y5]
   | str z=>ext jX;ext o;exact#[?wK,?wK]
   | lst es=>ext tH;let ?pS:=?nP;exact#[?zI,?zI]
   | tup es =>
     have hy':=hy;ext tH;let ?sB:=?sH
     have main:?a1M ?h1 ?M:=by
      have:=RcAt.tuples (A:=A) p p' O9m (?YY I);ext t9
      ext tA
      rw[e1,e2]at this;ext CM
      . rw[?r9];rw[←hl,qv2]at this;ext k4
      . ext VY
        rw[z,qw0]at this;exact this
     apply ?M1;by_cases hab:a=b
     . subst hab;have e3:D.tup ds=D.tup es:=?I1;rw[e3,P9];exact ?xU
     . exact ?SN
 | lst ds =>
   ext X5;let ?j2:=?b9 q;ext W0
   cases e with
   | non=>ext jP;exact#[?AL,?AL]
   | bl b=>ext jM;exact#[?v5,?v5]
   | int i=>ext jV;ext o;exact#[?vG,?vG]
   | str z=>ext jX;ext o;exact#[?z2,?z2]
   | tup es=>ext tH;let ?pS:=?sH;exact#[?xM,?xM]
   | lst es =>
     have hy':=hy;ext tH;let ?sB:=?nP
     have main:?a1M ?sX ?n:=by
      ext t9
      ext tA
      ext CM
      . have:=RcAt.lists (A:=A) ?Z ?kE O9m O9m (?YY I);rw[e1]at this;rw[?r9];exact this
      . rw[Qk hl];exact ?a0L RcAt.lists_lengths
     apply ?M1;by_cases hab:a=b
     . subst hab;have e3:D.lst ds=D.lst es:=?I1;rw[e3,P9];exact ?xU
     . exact ?SN
 def eqDs_ok[?e][?nM]:?LI:=by
 cases ds with
 | nil=>exact λ_ h=>?r2
 | cons d0 r =>
   intro d h;rcases ?qD with e | h
   . exact e▸iY I d0
   . exact eqDs_ok I r d h
end
inductive IrEqD[?d](n:Nat)[?cH]:Prop
 | mk:?a2T (eqD d e) ?HH
abbrev Ap4[?d](n:Nat):R2:=?Z4 ?HH
def zI{n:Nat}[?k0]:?a2I (Ap4 X.K n):=by
 ext e9;let ?RT:=h;exact(iY I d X.A x y v u e O9m hd he rx ry).1 ?a1 X.w ?m _ (?a2F (eqD d e) I)
universe e9
universe L2
namespace L2
open PySem PySem.Spec PyProof.Rows PySem.SeqAt
section
variable{X:Cx}
abbrev eqF(X:Cx)(H:Hp)(d:D)[?dL]:Bool:=@decide (∃v e,?d9/\?x2/\?a35 ?uH) ?pY
def rJ[?z][?e]{d e:D}{v:V}[?aO][?fU](h:?x2):eqF X H d u=?uH:=by
 cases q:eqD e d with
 | true=>exact @qe1 _ ?pY #[v,e,r,h,q]
 | false =>
   apply @qf2 _ ?pY ?_;rintro ⟨v',e',r',h',q'⟩;have:=?nW;subst this;rw[?z1 I h h']at q;rw[q]at q';cases q'
def RJ[?z][?e][?V]{x:V}{v:Value}{d:D}[?fV][?U]{ds:?aM}(hu:?F4)(hx:?A5)(rx:?e2)
 (r:?kS) (rv:?gX):∀y,y∈us.toArray->EqAt A s y v (eqF X H d y):=by
 intro y hy;have hy':y∈us:=by simpa using hy
 let#[i,hi]:=qf7 hy';have hlt:i<us.length:=?x5;have l1:=rv.length;obtain⟨w,hw⟩:∃w,?a2K vs w:=#[vs[i]' ?fA,?d6]
 let#[u,hu2,ru]:=?hV hw;rw[hi]at hu2;cases hu2;let#[e,he,re]:=r.getV hw;rw[rJ I ru re];have hm:e∈ds:=qb3 he;exact(iY I e A w x y v d (by have:=Qu hm;omega) re hx ru rx).2
def lG[?z][?e]{d:D}:∀[?fV][?U]{ds:?aM},?kS->?gX->us.any ?o3=?sP
 | vs,us,[],r,rv=>by
   cases (?Z5 ?pN);cases rv;rfl
 | vs,us,e::ds,r,rv=>by
   let#[v,q,rfl,h1,h2]:=r;cases rv with
   | cons r1 r2=>rw[qp4,qp4,rJ I r1 h1,lG I h2 r2]
abbrev Ay6[?d](H:Hp)(y:V)[?nM]:Prop:=?Z2 y (?sX)\/?Z2 y (?h1)
inductive YD[?d](n:Nat)(neg:Bool)[?cH]:Prop
 | mk:∀d ds,?g9->(Ay6 K H y ds)->(?eK+1<=n)->(?YK (if neg then !(?sP) else ?sP))->?HZ
abbrev Ap3[?d](n:Nat)(neg:Bool):R2:=?Z4 ?HZ
def mF{n:Nat}[?k0]:?a1L X.K:=by
 ext e9;let#[d,ds,hx,hs,hn,q]:=h
 have fin:∀[?U][?fV],?kS->?gX->?YW (?cD (!us.toArray.any ?o3)) s:=λr rv =>
  #[.bl (!(?sP)),H,I,by show ?s2 _=?s2 _;rw[List.any_toArray,lG I r rv],q]
 rcases hs with⟨a,vs,rfl,hq,r⟩|⟨a,vs,rfl,hq,r⟩
 . cases ry;let ?j2:=?eJ;exact ?ZG notIn_listAt ?Z
 . cases ry;let ?j2:=?g0;exact ?ZG notIn_tupleAt p
inductive YB[?d](n:Nat)[?cH]:Prop
 | mk:?a2T ?qX ?LT
abbrev Ao9[?d](n:Nat):R2:=?Z4 ?LT
def ZG{n:Nat}[?k0]:?a1A (Ao9 X.K n):=by
 ext e9;let ?RT:=h;have fin:?YW (?cD ?qX) s:=(?a2F ?qX I)
 have go:∀{k:Bool},RcNeAt X.A s v u k->k=?qX->?Y0 (?aQ .NotEq v u) ?bK:=λh1 h2=>by
  subst h2;exact h1 ?a1 X.w ?m _ fin
 cases d with
 | non =>
   cases (show x=.non from hd);cases (show v=Value.none from rx);cases e with
   | non=>ext jO;exact go ?OG rfl
   | bl b=>ext jL;exact go (.none_bool b) rfl
   | int i=>ext jU;ext eB;exact ?Y2 ?yW
   | str z=>ext jW;ext eB;exact ?Y2 ?AU
   | tup es=>ext fO;ext fH;exact ?Y2 ?BZ
   | lst es=>ext fO;ext fJ;exact ?Y2 ?yY
 | bl c =>
   cases (show x=.bl c from hd);cases (show v=Value.bool c from rx);cases e with
   | non=>ext jO;exact go (.bool_none c) rfl
   | bl b=>ext jL;exact ?Y2 ?y0
   | int i=>ext jU;ext eB;exact ?Y2 ?A4
   | str z=>ext jW;ext eB;exact ?Y2 ?BY
   | tup es=>ext fO;ext fH;exact ?Y2 ?B4
   | lst es=>ext fO;ext fJ;exact ?Y2 ?B3
 | int c =>
   cases (show x=.int c from hd);let#[t,rfl]:=rx;cases e with
   | non=>ext jO;exact ?Y2 ?zT
   | bl b=>ext jL;exact ?Y2 ?wA
   | int i=>ext jU;ext o;exact ?Y2 ?C0
   | str z=>ext jW;ext o;exact ?Y2 ?wD
   | tup es=>ext fO;ext fH;exact ?Y2 ?wT
   | lst es=>ext fO;ext fJ;exact ?Y2 ?AE
 | str c =>
   cases (show x=.str c from hd);let#[t,rfl]:=rx;cases e with
   | non=>ext jO;exact ?Y2 ?wW
   | bl b=>ext jL;exact ?Y2 ?B0
   | int i=>ext jU;ext o;exact ?Y2 ?yG
   | str z=>ext jW;ext o;exact ?Y2 ?zL
   | tup es=>ext fO;ext fH;exact ?Y2 ?B5
   | lst es=>ext fO;ext fJ;exact ?Y2 ?uS
 | tup ds =>
   let ?G2:=hd;cases rx;let ?j2:=?eH q1;ext VX
   cases e with
   | non=>ext jO;exact ?Y2 ?BK
   | bl b=>ext jL;exact ?Y2 ?xB
   | int i=>ext jU;ext o;exact ?Y2 ?y5
   | str z=>ext jW;ext o;exact ?Y2 ?wK
   | lst es=>ext tG;let ?pS:=?nP;exact ?Y2 ?zI
   | tup es =>
     ext tG;let ?sB:=?sH;apply go (RcNeAt.tuples p p' O9m (?ZA I)) ?_;ext t9
     ext tA
     rw[e1,e2];ext CM
     . rw[?r9,←hl,qv2];simp
     . ext VY
       rw[z,qw0]
 | lst ds =>
   let ?G2:=hd;cases rx;let ?j2:=?b9 q1;ext VX
   cases e with
   | non=>ext jO;exact ?Y2 ?AL
   | bl b=>ext jL;exact ?Y2 ?v5
   | int i=>ext jU;ext o;exact ?Y2 ?vG
   | str z=>ext jW;ext o;exact ?Y2 ?z2
   | tup es=>ext tG;let ?pS:=?sH;exact ?Y2 ?xM
   | lst es =>
     ext tG;let ?sB:=?nP;ext t9
     ext tA
     by_cases hl:?GO
     . apply go (RcNeAt.lists ?Z ?kE O9m O9m (?ZA I)) ?_;rw[e1];simp only[eqD];rw[?r9]
     . apply go (?a0L RcNeAt.lists_lengths) ?_;simp only[eqD];rw[Qk hl];rfl
abbrev MQ(n:String):?vR
 | ?t=>false
 | ?fC=>n==?d2 || n==?jI
 | ?e8=>n==?d2
 | ?c1=>n==?m9
 | ?M _=>n==?gW
 | ?o6=>n==?dP
abbrev tyD:D->String
 | ?t=>"NoneType"
 | ?fC=>?jI
 | ?e8=>?d2
 | ?c1=>?m9
 | ?M _=>?gW
 | ?o6=>?dP
def ZY[?H]{n:String}{d:D}(hn:?xI):PySem.W.kitOne K (?a7 (tyD d)) (?a7 n)=?c (MQ n d):=by
 rcases hn with rfl | rfl | rfl | rfl | rfl | rfl<;>cases d<;>(unfold PySem.W.kitOne PySem.W.kitCls PySem.W.subIn tyD MQ;first | rfl | ext aE)
def gP:?a2Y ?s9 (λxs H Q=>∃x n d,xs=[x,.ty n]/\(?xI)/\?A5/\?YK (MQ n d)):=by
 ext fM;let#[x,n,d,rfl,hn,hx,q]:=h;let#[u,v,rfl,rx,rt]:=X0 r;cases rt;have k:=ZY (K:=X.K) (d:=d) hn;have fin:∀tk,EP X Ae σ Q (?cD (MQ n d)) { s with toks:=tk }:=λtk=>#[.bl (MQ n d),H,I.tok tk,rfl,q]
 cases d with
 | non=>cases (?a2H ?t);cases (show ?q0 from rx);exact ?YR PySem.W.kitx_none ?pL
 | bl b=>cases (?a2H ?bD);cases (show ?qU from rx);exact ?YR PySem.W.kitx_bool ?pL
 | int b=>cases (?a2H ?iJ);ext hM;exact ?YR PySem.W.kitx_int ?pL
 | str b=>cases (show x=?bB b from hx);ext hM;exact ?YR PySem.W.kitx_str ?pL
 | tup ds =>
   let ?SJ:=hx;cases rx;let#[its,_,#[o,e,c,_],_]:=?g0;exact ?YR PySem.W.kitx_tuple ?TW
 | lst ds =>
   let ?SJ:=hx;cases rx;let#[its,_,#[o,_,e,c,_],_]:=?eJ;exact ?YR PySem.W.kitx_list ?TW
inductive LL[?d][?cH]:Prop
 | mk:∀l b xs zs,?mD->(y=?bT)->(?YV l xs)->(?YV b zs)->(xs.length+zs.length<=sizeLine)->?a2O (?n (xs++zs)) ?QT
abbrev pK[?d]:R2:=?Z4 ?QT
def pX:?a23 (pK X.K):=by
 ext e9;let#[l,b,xs,zs,rfl,rfl,hl,hb,hz,q]:=h;cases rx;cases ry;let#[its,r1,p1,_]:=?b9 hl;let#[its2,r2,p2,_]:=?b9 hb;let#[#[cls,dd,data,sl],n,ho,hc,hdd,hd]:=id p1;let#[#[Co9,dd2,data2,sl2],n2,ho2,hc2,hdd2,hd2]:=id p2;simp only at hc hd hc2 hd2;subst hc hd hc2 hd2
 apply concat_meets #[_,ho,rfl] #[_,ho2,rfl] noFill_list_add seq_list_add PySem.F.slot_list_add PySem.F.entry_list_add (PySem.F.args_list_add_2 _ _)
  (list_addW l b ?I its2.toArray n n2 dd dd2 sl sl2 (by rw[qd2,qd2,←r1.length,←r2.length];exact hz)) #[ho,ho2,?_]
 rw[show its.toArray++its2.toArray=(its++its2).toArray by simp];exact#[?jK,_,I.lnew (t':=s.toks) (r1.append r2) (by rw[qa8];exact hz),rfl,?RD]
def NW[?bN]:?a2Y "all" (λxs H Q=>∃(p:Addr) (bs:?p ?dB),?gE/\SqL X.K H p (bs.map V.bl)/\?YK (bs.all id)):=by
 ext fM;let#[p,bs,rfl,hq,q]:=h;ext VG
 have rel:∀(i:Nat) (v:Value),its.toArray[i]?=?A->∃b,?sV=?c b/\v=?cD b:=λi v e=>by
  have e':?KR:=?gA
  have hlt:?MT:=?RV;ext CV;have hb:?sV=?c (bs[i]' ?fA):=?d6
  let ?iE:=?ZY V.bl bs;rw[e']at hu;cases hu;exact#[_,hb,ru]
 apply call_all_walk (qr1 ?gO ?_);apply#[?v,?U3,?FK,?lW,_,_,?E5,rfl,?R7,?U9,?_,λh' tk k=>?_]
 . let ?y3:=pl;exact ?A1
 . exact pl.isList.at λo e=>?hY
 . intro i v s' Q' E' hv hQ;let#[b,hb,rfl]:=rel i v hv;dsimp only at hQ;rw[hb]at hQ;exact ql7 hQ
 . have e:(?fX ?lW).all (?E5)=bs.all id:=by
    ext CV;rw[qd2,←l1];rw[qn7,qd8,qd8];constructor
    . intro hx b hb;let#[i,hi]:=qf7 hb;have:=hx i (qd0.mpr ?x5);rw[hi]at this;exact this
    . intro hx i hi;have hlt:=?TV;have hb:?sV=?c bs[i]:=?aH
      rw[hb];exact hx _ (qf0 _)
   rw[e];ext V9;exact(?a2F (bs.all id) I1)
universe e9
structure Has[?cI][?d][?fL](x:Str)[?tR]:Prop where
 ex:∃(f:Addr) (fd:FuncData),mg x=?C2/\?lX/\?qK
section
variable{X:Cx}[?WN][?a3]{t:TA}
def An(h:?a2M Has x)[?eC][?cJ](hg:?gZ:=by rfl)[?u1][?hH]
 [?jN] (hpl:?dY (·.1)=false:=by rfl):?ZP ?l7 (tCall sp [] E0 t):=by
 let#[f,fd,h1,h2,h3,h4]:=h.ex;exact uM h4 ?lH hg h1 h2 h3 ?u fF ha hdb he hpl
universe e9
def boot_intT:?a0H ?d2 ?d2:=?b8
def g7:?a0H ?jI ?jI:=?b8
def Ll:?b3 ?gW=?c (?dQ):=?b8
def Fc:?b3 ?dP=?c (?b5):=?b8
def Oi:?a0H ?oC ?oC:=?b8
def OA:?a17 "max" "max":=?b8
def oA:?a17 "min" "min":=?b8
def Ei:?a17 "all" "all":=?b8
def B6:?a17 ?s9 ?s9:=?b8
universe L2
namespace L2
open PySem PySem.Spec PyProof.Rows
section
variable{X:Cx}[?H]{tg l:Expr}{tl:TE}{n:Nat}
def E4.imp{X:Cx}{f:Value}{r r':?cQ}(h:E4 X f r)(i:∀xs H Q,r' xs H Q->?KD):E4 X f r':=λAe s σ H xs us Q I v q=>h Ae s σ H xs us Q I v (i xs H Q q)
inductive SQ[?d][?a4][?cL]:Prop
 | mk:?a39 (Q (?h ?pF) H) ?M4
abbrev Ap0[?d]:?cQ:=?a1Y ?M4
inductive gX[?d][?a4][?cL]:Prop
 | mk:?a39 (?O5) ?TI
abbrev uB[?d]:?cQ:=?a1Y ?TI
inductive LI[?d][?a4][?cL]:Prop
 | mk:∀p ys,?r1->(((?vF/\?J6)\/(?A8/\Q ?bJ H)))->?J1
abbrev YY[?d]:?cQ:=?a1Y ?J1
inductive GX[?d][?a4][?cL]:Prop
 | mk:∀x n d,(xs=[x,.ty n])->((?xI))->?g9->(?YK (MQ n d))->?DS
abbrev UB[?d]:?cQ:=?a1Y ?DS
inductive sR[?d][?a4][?cL]:Prop
 | mk:∀(p:Addr) (bs:?p ?dB),?r1->(?YV p (bs.map V.bl))->(?YK (bs.all id))->?RO
abbrev Ap5[?d]:?cQ:=?a1Y ?RO
def Qq[?R]:?a23 (pK K):=by subst hK;exact pX
def M6[?R]:SlR X (Ao7 K):=by subst hK;exact tX
def Bd[?R]:IxR X (Ap2 K):=by subst hK;exact vE
def Bc[?R]:IxR X (Ap1 K):=by subst hK;exact Aa3
def Ax[?R]:?a2Y "len" (Ap0 K):=?a37 DT
def Mb[?R]:E4 X (?b5) (uB K):=?a37 DS
def Px[?R]:E4 X (?dQ) (YY K):=by subst hK;exact(AD).imp (?ZB ?R0 ?R0)
def E8[?R]:?a2Y ?s9 (UB K):=by subst hK;exact(gP).imp (?ZB ?M5 ?M5)
def Dn[?bN][?R]:?a2Y "all" (Ap5 K):=by subst hK;exact(NW hc).imp (?ZB ?U0 ?U0)
def IS[?k0][?R]:?a1L K:=?YS mF hu
def VC[?k0][?R]:?a2I (Ap4 K n):=?YS zI hu
def vC[?k0][?R]:?a1A (Ao9 K n):=?YS ZG hu
def Cg[?uB][?R]:?a0V xJ K:=?YS uI hl
def DB[?uB][?R]:?a0V At1 K:=?YS zD hl
variable{o e:Expr}[?a3][?VU]
def Ma[?VD][?cJ][?R]
 [?W2]
 (hfew:(?JZ
   && ?YQ 1)=true:=by rfl)
 [?XC] [?CG] (hplain:?vD (·.1)=false:=by rfl) :
 ?ZP (?a33 o) (tBM K T r to t):=by subst hK;exact Aq0 pa slot hty hm ho ha hbase hfew hline hs hplain
def Co[?a3]{k:Nat}{t:tL}{n:Nat}[?W][?bN](h:?NS)[?R]
 [?XE] (hst:?KA (·.1)=none:=by rfl):?a1N K:=by subst hK;exact ZD hc h hn hst
universe e9
universe L2
namespace Hb
section
variable{fam:Int}
def Am3{i j:Nat}(h:i<j)(hj:j<3):?MP :=
 ?a1I 3 ?MP
def A67{i j:Nat}(h:i<j)(hj:j<4):?SX :=
 ?a1I 4 ?SX
universe e9
abbrev lev[?nL]:Nat:=p.length-1
structure JP[?fW][?nL]:Prop where
 cnt:p.length=0\/p.length=2\/p.length=3\/p.length=4
 low:∀f∈p,0<=f
 bel:∀f∈p,∃q,?JG/\lev q+1=lev p
 agr:3<=p.length->∀(i j:Nat) (f g:Int) (q r:?aV),i<j->p[j]?=?c f->?a2K p g->?JG->xs[g.toNat]?=?c r->q[i]?=r[j-1]?
abbrev Ca[?fW]:Prop:=∀(k:Nat) [?nL],xs[k]?=?c p->JP (xs.take k) p
section
variable{xs:LLInt}
universe e9
universe Hb
namespace L2
inductive Dx{A0:Type}(p:A0->Prop):Prop
 | mk (x0:A0) (x:p x0):Dx p
inductive F1{A0 A1:Type}(p:?YC A0 A1):Prop
 | mk (x0:A0) (x1:A1) (x:p x0 x1):F1 p
inductive Ut{A0 A1 A2:Type}(p:A0->?YC A1 A2):Prop
 | mk [?tY] (x:p x0 x1 x2):Ut p
inductive Xy{A0 A1 A2 A3:Type}(p:A0->A1->?YC A2 A3):Prop
 | mk [?tY] (x3:A3) (x:p x0 x1 x2 x3):Xy p
inductive eE{A0 A1 A2 A3 A4:Type}(p:A0->A1->A2->?YC A3 A4):Prop
 | mk [?tY] (x3:A3) (x4:A4) (x:p x0 x1 x2 x3 x4):eE p
inductive Ex6{A0 A1 A2 A3 A4 A5:Type}(p:A0->A1->A2->A3->?YC A4 A5):Prop
 | mk [?tY] (x3:A3) (x4:A4) (x5:A5) (x:p x0 x1 x2 x3 x4 x5):Ex6 p
inductive WG{A0 A1 A2 A3 A4 A5 A6:Type}(p:A0->A1->A2->A3->A4->?YC A5 A6):Prop
 | mk [?fG] (x:p x0 x1 x2 x3 x4 x5 x6):WG p
inductive wG{A0 A1 A2 A3 A4 A5 A6 A7:Type}(p:A0->A1->A2->A3->A4->A5->?YC A6 A7):Prop
 | mk [?fG] (x7:A7) (x:p x0 x1 x2 x3 x4 x5 x6 x7):wG p
inductive Ex9{A0 A1 A2 A3 A4 A5 A6 A7 A8:Type}(p:A0->A1->A2->A3->A4->A5->A6->?YC A7 A8):Prop
 | mk [?fG] (x7:A7) (x8:A8) (x:p x0 x1 x2 x3 x4 x5 x6 x7 x8):Ex9 p
inductive jQ{A0 A1 A2 A3 A4 A5 A6 A7 A8 A9:Type}(p:A0->A1->A2->A3->A4->A5->A6->A7->?YC A8 A9):Prop
 | mk [?fG] (x7:A7) (x8:A8) (x9:A9) (x:p x0 x1 x2 x3 x4 x5 x6 x7 x8 x9):jQ p
inductive SW{A0 A1 A2 A3 A4 A5 A6 A7 A8 A9 sY:Type}(p:A0->A1->A2->A3->A4->A5->A6->A7->A8->?YC A9 sY):Prop
 | mk [?fG] [?tN] (x:p x0 x1 x2 x3 x4 x5 x6 x7 x8 x9 YM):SW p
inductive wH{A0 A1 A2 A3 A4 A5 A6 A7 A8 A9 sY yJ:Type}(p:A0->A1->A2->A3->A4->A5->A6->A7->A8->A9->?YC sY yJ):Prop
 | mk [?fG] [?tN] (x11:yJ) (x:p x0 x1 x2 x3 x4 x5 x6 x7 x8 x9 YM x11):wH p
inductive Ag5{A0 A1 A2 A3 A4 A5 A6 A7 A8 A9 sY yJ A12:Type}(p:A0->A1->A2->A3->A4->A5->A6->A7->A8->A9->sY->?YC yJ A12):Prop
 | mk [?fG] [?tN] (x11:yJ) (x12:A12) (x:p x0 x1 x2 x3 x4 x5 x6 x7 x8 x9 YM x11 x12):Ag5 p
inductive A02{A0 A1 A2 A3 A4 A5 A6 A7 A8 A9 sY yJ A12 A13 A14 A15 A16 A17 A18:Type}(p:A0->A1->A2->A3->A4->A5->A6->A7->A8->A9->sY->yJ->A12->A13->A14->A15->A16->?YC A17 A18):Prop
 | mk [?fG] [?tN] (x11:yJ) (x12:A12) (x13:A13) (x14:A14) (x15:A15) (x16:A16) (x17:A17) (x18:A18) (x:p x0 x1 x2 x3 x4 x5 x6 x7 x8 x9 YM x11 x12 x13 x14 x15 x16 x17 x18):A02 p
inductive Dw(p0 p1 p2:Prop):Prop
 | mk [?u2]:Dw p0 p1 p2
inductive Bw(p0 p1 p2 p3:Prop):Prop
 | mk [?u2] (x:p3):Bw p0 p1 p2 p3
inductive Er(p0 p1 p2 p3 p4:Prop):Prop
 | mk [?u2] (x:p3) (x:p4):Er p0 p1 p2 p3 p4
inductive G9(p0 p1 p2 p3 p4 p5:Prop):Prop
 | mk [?u2] (x:p3) (x:p4) (x:p5):G9 p0 p1 p2 p3 p4 p5
inductive Oy(p0 p1 p2 p3 p4 p5 p6:Prop):Prop
 | mk [?hF]:Oy p0 p1 p2 p3 p4 p5 p6
inductive Xg(p0 p1 p2 p3 p4 p5 p6 p7:Prop):Prop
 | mk [?hF] (x:p7):Xg p0 p1 p2 p3 p4 p5 p6 p7
inductive EA(p0 p1 p2 p3 p4 p5 p6 p7 p8:Prop):Prop
 | mk [?hF] (x:p7) (x:p8):EA p0 p1 p2 p3 p4 p5 p6 p7 p8
inductive YI(p0 p1 p2 p3 p4 p5 p6 p7 p8 p9:Prop):Prop
 | mk [?hF] (x:p7) (x:p8) (x:p9):YI p0 p1 p2 p3 p4 p5 p6 p7 p8 p9
inductive yI(p0 p1 p2 p3 p4 p5 p6 p7 p8 p9 wU:Prop):Prop
 | mk [?hF] (x:p7) (x:p8) (x:p9) (x:wU):yI p0 p1 p2 p3 p4 p5 p6 p7 p8 p9 wU
inductive YH(p0 p1 p2 p3 p4 p5 p6 p7 p8 p9 wU p11 p12 p13:Prop):Prop
 | mk [?hF] [?WW]:YH p0 p1 p2 p3 p4 p5 p6 p7 p8 p9 wU p11 p12 p13
inductive yH(p0 p1 p2 p3 p4 p5 p6 p7 p8 p9 wU p11 p12 p13 p14 p15:Prop):Prop
 | mk [?hF] [?WW] (x:p14) (x:p15):yH p0 p1 p2 p3 p4 p5 p6 p7 p8 p9 wU p11 p12 p13 p14 p15
universe L2
namespace Hb
open PySem L2
abbrev f8[?eD](k:Int):Int:=?nN ?rE 0
noncomputable abbrev LT[?d](H:Hp)(v:V)[?fW]:Prop:=?Z2 v (?n ?mA)
noncomputable abbrev TI[?d](H:Hp)(v:V)[?eD]:Prop:=?Z2 v (tI ns)
section
variable[?H][?eE]
def TI.sq{v:V}[?fT](h:?PG):∃a,?f9/\?MO:=by
 ext nD;rw[Ey.mp r]at q;exact ?PH
def TI.mk[?X][?fT](h:?MO):TI K H ?bW ns:=?LY
def TI.same{v:V}[?fT](s:?cS)(h:?PG):TI K H' v ns:=?G0 s h
def rV[?a4](k:Nat):Nd xs ?a9 (?c ?eO)=xs.take k:=by
 unfold Nd;rw[HT.sIx_none,HT.sIx_nat,qy1,List.drop_zero,List.take_eq_take_iff];omega
def c8[?a4](k:Nat):Nd xs (?c ?eO) ?a9=?oO k:=by
 unfold Nd;rw[HT.sIx_none,HT.sIx_nat];by_cases h:?H2
 . rw[?K0 h,ql5 (by rw[ql8];omega)]
 . rw[Nat.min_eq_right ?aF,List.drop_length,List.drop_of_length_le ?aF];simp
def MB{D:Addr}{ys:?q}{v:V}{d:L2.D}{ds:?oM}(hD:H D=?c ?eG)(r:?a03 ys ds)(rv:?eL)(hi:imms (ds++[d])=true):?aB K (?YL D (?n (ys++[v]))) (ys++[v]) (ds++[d]) :=
 (r.snoc rv).t (i8.lst hD) hi
def KG{D:Addr}{ys:?q}{v:V}{xs:LLInt}{x:?aV}(hD:H D=?c ?eG)(r:?a03 ys ?mA)(rv:TI K H v x):?aB K (?YL D (?n (ys++[v]))) (ys++[v]) ((xs++[x]).map tI):=by
 have e:(xs++[x]).map tI=?oZ tI++[tI x]:=?aH
 have h:=gC (xs++[x]);rw[e]at h ⊢;exact MB hD r rv h
abbrev SameX(B:Addr)(H H':Hp):Prop:=∀b o,b≠B->?QH
def SameX.refl(B:Addr)(H:Hp):?iK B H H:=λ_ _ _ h=>h
def SameX.trans{B:Addr}{H H1 H2:Hp}(a:?t8)(b:?iK B H1 H2):?iK B H H2:=λc o n h=>b c o n (a c o n h)
def SameX.of{B:Addr}{H H1:Hp}(a:?kV):?t8:=λc o _ h=>a c o h
def SameX.upd{B:Addr}{H H1:Hp}{o:HO}(a:?t8):?iK B H (upd H1 B o):=λc u n h=>by rw[Ak n];exact a c u n h
def SameX.same{B:Addr}{H0 H H1:Hp}(a:?t8)(s:?TB)(h:H0 B=none):?cC H0 H1:=λb o e=>a b o (At e h) (s b o e)
def V1:∀ns:?aV,?PI=0
 | []=>rfl
 | ?sE=>by show max (dep (?eN)) (?PI)=0;rw[V1 ns];rfl
def mT[?D9](hc:c)(h:A):?xZ:=by rw[?S hc];exact h
def Oz[?D9](hc:¬c)(h:B):?xZ:=by rw[?G hc];exact h
def neI{a b:Int}(h:¬a=b):?R1:=?wU
def eqI{a b:Int}(h:a=b):¬?R1:=?wU
def isI{a b:Int}(h:a=b):?s (?a8 a=?a8 b)=true:=?wU
def Cr{g:TG}[?fI][?fN][?cF][?CL]
 [?V3]
 [?jS]:?Y3 ?qR LU:=?ZK Qw
def BP{g:TG}[?fI][?fN][?cF][?WJ]
 [?V3]
 [?jS]:?Y3 ?pI LU:=?ZK rW
def Lk{g:TG}[?fI]{lo:Int}{n:Nat}[?cF]
 (hs:?a0N ?O2)
 [?XO]:?Y3 (?iQ) LU:=Ik Pv h0 (λi ys τ H e p=>hs i ys τ H e p) hd
def Ao{t u:TS}{D:Ends}[?bO](P:?C)[?CU][?VS]:?pZ:=h hu
def qy5{t u:TS}{D:Ends}[?bO](P:?C)[?VS][?CU]:?pZ:=h hu
def Hv{t u:TS}{D:Ends}[?bO](P:?C)[?CU](h:(?LP)->?pZ):?pZ:=h hu
def small{n:Nat}(h:?IO):n<sizeLine:=qc2 h ?d3
def B9{n:Nat}(h:?IO):?B1:=qe6 (small h)
universe e9
section
variable[?d]
abbrev HU:Sp:=λvs H Q _=>Ut λ ?iS ?H1 ?eO=>Er (vs=[?aS,?rU]) (?p2) (0<=k) (ns.length<=63) (Q (?h (f8 ns k)) H)
universe e9
abbrev Rp(d:L2.D):Bool:=MQ ?d2 d&&!MQ ?jI d
abbrev belowD(d:L2.D)(b:Int):Bool:=match d with
 | ?B=>?DT&&?s (i<b)
 | _=>false
abbrev Bs(n:Nat):Int:=if ?lO > ?eZ-1 then 0 else ?eZ-1
abbrev Dq[?fW](d:L2.D)(l:Int):Bool:=match d with
 | ?B=>?DT&&?s (i<?sZ)&&?s (Bs (?GB).length=l)
 | _=>false
abbrev Up[?fW][?nL](j i:Nat):Bool:=?s (?a28 j i=?a28 i (j-1))
abbrev Mi[?fW][?nL]:Bool:=(?fX p.length).all λj=>(?fX j).all λi=>Up xs p j i
abbrev WM:L2.D->Int
 | ?B=>i
 | _=>0
abbrev dR(n:Nat):Bool:=n==0 || n==2 || n==3 || n==4
abbrev Z8[?fW](d:L2.D):Bool:=match d with
 | ?h1=>?K7
 | _=>false
def Qt[?fW](ds:?oM):Z8 xs (?h1)=(?K7):=rfl
def vR{n:Nat}(h:dR n=true):n<=4/\n≠1:=by
 unfold dR at h;simp only[qs1,qx6]at h;omega
section
variable[?d]
abbrev I0:Sp:=λvs H Q _=>F1 λ ?pT ?q8=>Dw ?S5 ?g9 (?YK (Rp d))
abbrev Hc:Sp:=λvs H Q _=>Ut λ ?pT ?q8 (b:Int)=>Dw (vs=[x,?iJ]) ?g9 (?YK (belowD d b))
abbrev Gy:Sp:=λvs H Q _=>F1 λ ?pT (ds:?oM)=>Dw ?S5 (Ay6 K H x ds) (Q (?h (?BS)) H)
abbrev Fo:Sp:=λvs H Q _=>eE λ ?iS ?pT ?q8 (l:Int) ?xW=>Bw (vs=[?aS,x,?h l]) (?kN) ?g9 (?YK (Dq xs d l))
abbrev O9:Sp:=λvs H Q _=>Xy λ ?iS ?kL ?xW (p:?aV)=>G9 (vs=[?aS,v]) (?kN) (?K4) (p.length<=4) ((∀f∈p,0<=f/\f<?sZ/\(?pR f.toNat []).length+1=p.length)) (?YK (Mi xs p))
abbrev KA:Sp:=λvs H Q _=>Xy λ ?iS (th:V) ?q8 ?xW=>Bw (vs=[?aS,th]) (?kN) (?Z2 th d) (∀H',?cS->Q (.bl (Z8 xs d)) H')
noncomputable abbrev Tk:Sp:=HU K
universe e9
section
variable[?H]{H:Hp}
def HE{d:L2.D}(h:Rp d=true):∃i,d=?B:=by
 cases d<;>simp[Rp,MQ]at h;exact ?bX
def LT.get[?X]{xs:LLInt}{i:Int}(h:?kN)(h0:?hX)(h1:i<?sZ):∃us v,?o5/\dX us i=?A/\TI K H v (?GB):=by
 let ?IC:=h;cases e;let ?RS:=qj9 h0;have hj:?BI:=O9m
 have e:?mA[j]?=?c (tI xs[j]):=by rw[qb4,?AC];rfl
 let#[v,hv,tv]:=?lB e;apply#[us,v,hq,Bp hv,?_];rw[qd6,qa0,?AC];exact tv
def LT.len[?X]{xs:LLInt}(h:?kN):∃us,?o5/\us.length=xs.length:=by
 let ?IC:=h;cases e;exact#[us,hq,?G4]
def TI.get{v:V}{p:?aV}{i:Int}(h:?K4)(h0:?hX)(h1:i<(p.length:Int)):∃a,?f9/\SqT K H a (p.map ?a8)/\dX (p.map ?a8) i=?c (?h (?yO ?x1 0)):=by
 let#[a,e,hq]:=h.sq;apply#[a,e,hq,?_];let ?RS:=qj9 h0;have hj:j<p.length:=O9m
 apply Bp ?_;rw[qb4,?AC];simp[hj]
def cZ(n:Nat):Bs n=((n-1:Nat):Int):=by unfold Bs;split<;>omega
def GV{xs:LLInt}{l:Int}:∀{ds:?oM},ds.all (λe=>Dq xs e l)=true->ds=Fg (ds.map WM)
 | [],_=>rfl
 | ?h3,h=>by
   simp only[qx1,qc3]at h;cases d with
   | int i =>
     show L2.D.int i::ds=L2.D.int i::Fg (ds.map WM);rw[←GV h.2]
   | _=>simp[Dq]at h
universe e9
universe Hb
namespace L2
open PySem PySem.Spec PyProof.Rows
section
variable[?n3]{xc:Str}[?z]{C c:Addr}[?dJ]
universe e9
section
variable[?n3]{xc:Str}[?XQ][?W][?k6]{te:TE}
universe e9
section
variable{fs:?a2}[?eE]{h B h' h2:Heap}
universe e9
noncomputable abbrev XJ:=?aZ->OAddr->?C
section
variable[?uE]{σ:St}[?eE]{s s':Shared}{e:Addr}{cls a0:Value}{dx:OAddr}
universe e9
section
variable[?cG][?n5]{N:?E}[?XH][?V]{outer:?d1}[?a5]{H:Hp}{E:XK}
universe e9
section
variable{X:Cx}{J:XJ}[?WN][?a3]{t:TA}
universe e9
universe L2
namespace L2
open PySem PySem.Spec PyProof.Rows PySem.W
section
variable{X:Cx}{Ae pn:Bi}[?bO][?a5]{J:XJ}
universe e9
section
variable{X:Cx}{th:Ends->XJ}
universe e9
section
variable[?jT][?T][?aT]{g:?iZ GenState}{d:Drawn}{t:Nat}{os:OsState}{a C:Addr}{o:Obj}{K:Frag}
universe e9
section
variable{X:Cx}{K:Frag}
universe e9
universe L2
namespace L2
open PySem PySem.Spec PyProof.Rows
def Bm.tupN{X:Cx}[?z]{h':Heap}[?eF][?dJ]{x y:V}{u v:Value}[?e](kk:∀c o,?I5->?MX)[?hJ](hl:?LN)
 (ht:?zM=?c { cls:=?dQ,data:=?aK #v[u,v] }) (ru:?c7) (rv:?wO):?Y7 (?BH) ?lA/\∀b∈fp,upd H ?v ?r3 b=none:=by
 have hfresh:?mZ:=?gB;ext VL
 have qC:∀c o,H c=?l->upd H ?v ?r3 c=?l:=λc o e=>(Ak (At e hfresh)).trans e
 apply#[Bm.step (s:=s) (h':=h') (t':=t') (H':=?BH) I (g':=s.gens) (d':=s.drawn) (ch:=fp) (?II) (λc o _ _ hc e _=>?xD) (λc o _ _ hc e _=>#[?xF,?xD]) (λc o hc e n=>?_) (λc o hc e=>#[o,?xD])
  (λc zs e=>?y6) (λc o w' e=>?y6) (λc ps e=>#[#v[],by rw[?y6];simp]) (λm hm=>?_) (λc w' e=>?_) ?c5,?II]
 . have f:=hf c hc;ext WS
 . rw[Ak (qe3 ?e3)];exact n
 . let ?T2:=hm;exact#[o,es',ep,kk _ o (λq=>(hf _ q).2.1 rfl) ho,r]
 . by_cases hcs:?a1S c
   . subst hcs;rw[Ab]at e;cases e;exact#[(by show(2:Nat)<=sizeLine;decide),[u,v],?F ru (?F rv ?u),#[_,ht,rfl,rfl,_,rfl]]
   . rw[Ak hcs]at e;apply(?b7 c w' e).stay (λc' y' hc' q=>?_) (λc' q=>?R9) λc' zs q=>?R9;rcases hc' with rfl | hc'
     . exact ?a0W kk e
     . exact ?a0W kk hc'
 . let ?LD:=hl c hc;rw[Ak (qe3 ?e3)];exact(hf c hc).1
def Ke[?aT]{j t:Addr}{n:Nat}(g:?hA j t n):∃o,?a0P j:=by
 let#[o,q,_,d]:=g;exact#[o,q,?L4]
def a8[?aT]{e it:Addr}{i:Int}{old:Value}(h1:?a1W h i)(h2:∃o,?a0P it):∀b∈?mL,?PC:=λb hb=>by
 rcases ?l1 hb with rfl | hb
 . exact#[_,h1,λv z=>by cases (show ?AI from z)]
 . rw[?HJ];exact h2
def Bm.fp2{X:Cx}[?z][?e]:∀b∈[?f8,s.heap.objs.size],?mB:=λb hb=>by
 have lb:?JD:=by
  rcases ?l1 hb with rfl | hb
  . exact ?sJ
  . rw[?HJ];exact ?e6
 exact I.fpOk lb (?hR lb)
abbrev IteG(S:?o2)[?b0]:It :=
 #[?a0O ?dS,λi H x H'=>∃p v,?cV/\x=?e5/\H'=?YL p (?M [?B,v])/\∀xs,?dS->xs[i]?=?A,?a19 ?dS]
def bM{X:Cx}[?z][?T][?a3][?k3]{e it:Addr}{i:Nat}{old:Value}{x:V}[?aO][?XJ]
 (hne:e≠it) [?e] (hf:∀b∈?mL,?mB) (h1:?a1W ?y ?pK) (h2:∃o,?QU/\?d0) (ru:?c7)
 (hout:IsEnumOut h' e it (?pK+1) u ?v) (htup:?zM=?a0C i) (hk:∀b o,?sS->?UU)
 (hT:∀h3,?MK->(∃old,?a1W h3 (?pK+1))->T h3) (hY:?mZ->Y ?iD (?YL ?v (?M [?B,x]))) :
 ∃r,?IB/\?f ?k X.A (?o1 ?iO (?j e) r) (?a0Y ?mL) E { s with heap:=h',toks:=?qB }:=by
 apply#[_,rfl,wpAny_letOwnedTupleGo_enum hout λh3 hen Rf=>?_]
 replace Rf:?MK:=Rf
 have lte:?a1T e:=qc1 h1;have ht3:h3.get? ?v=?a0C i:=(?cZ _ (qn3 lte)).trans htup;let ?SI:=I.tupN (t':=?qB) (fp:=?mL) (x:=?B) (y:=x) (λb o hb z=>(?cZ b (λq=>hb (q▸ ?i1))).trans (hk b o (λq=>hb (q▸ ?i1)) (λq=>hb (q▸ ?RF)) z)) hf (a8 h1 h2) ht3 ?bX ru;exact#[?jK,_,I3,rfl,hY (?gB),hT h3 Rf ?QK,hn3]
section
variable[?k6][?fI]{S:?o2}
def JH[?X][?bQ][?cF](hl:?a00 ?dS)
 [?UX]
 [?jS]:?Y3 (?qN) tc:=by
 ext CC;rintro i m ys τ H ⟨rfl,hi,pp⟩;have q:=hl i ys τ H hi pp;ext jY
 . ext CA;let ?EW:=y;exact hs i v ys τ _ p ?oL pp hp
 . ext jZ
   subst e;exact ?i #[?s8,hd ys τ H pp]
def BJ[?X][?bQ][?n1](hl:?ZL ?eT ?dS)
 [?V0] :
 ∃W:?eS,?g3/\∀i m σ H,?f0 →
   ?a2Z ?qN (?XZ ?qN ?qN):=by
 ext CE;rintro i m σ H ⟨rfl,hi,pp⟩;have q:=?OA;ext jY
 . ext CB;let ?EW:=y;exact hs i v σ _ p ?oL pp hp
 . ext jZ
   subst e;exact ?i #[?s8,?ES]
universe e9
abbrev Ite[?d][?b0]:It:=IteG (SqL K) a
def LP[?cG][?a3][?k3](a e it:Addr)(hne:e≠it):Xe P w K ?iO (?iR) ?mL e (λi h=>(∃old,?a1W h ?pK)/\?E2) where
 mem:=?i1
 obj:=λi h ?k8=>a8 h1 ?sG
 keep:=λi h h' ?k8 k=>#[#[old,k e (?i1) _ h1],h2.at λo z=>k it (?RF) o z]
 item:=by
  ext dE;let ?k8:=st;ext VQ;exact wpAny_pyNext_enum_item h1 h2 ?Z (x:=u) ?pU hne λh' hout Ab8 htup hsz hk=>bM (i:=i) (Y:=(Ite X.K a).yld i H) (T:=λh=>(∃old,?mW h e it ((i+1:Nat):Int) old)/\?hA it a ?b4) hne I hf h1 ?sG ru hout htup hk (λh3 Rf he=>#[he,Ab8.at λo z=>(?cZ it hne.symm).trans z]) λhn=>#[_,x,hn,rfl,rfl,?NT]
 done:=by
  ext dE;let ?k8:=st;ext WT;ext hG;have hl:=rv.length;exact wpAny_pyNext_enum_end ?dR h1 h2 ?Z ?m4 λh' eb=>#[rfl,?Z8 (λb o hb z=>eb b o hb z)]
 self:=λ_ _ _ _ _ st h=>by
  let ?k8:=st;exact qu7 h1 h
inductive sV[?d][?tK]:Prop
 | mk:∀a,?SP->?a1J (?iR) ?G6
abbrev At4[?d](ta:TA):TI:=?YO ?G6
def Xd:?a0H ?h0 ?h0:=?b8
def Jv{X:Cx}[?H][?a3][?k3]{a:Expr}{ta:TA}{p pos:Pos}(hg:Gl X ?h0)(hm:?cB ?h0=none)(ha:?KV)[?R][?WR]:PI X ?iO (?Z3 ?h0 [a]) (At4 K ta):=by
 subst hK;intro Ae s σ H R I h;apply Call_ (L8 I hg hm Xd (qh1 (D9 (ha pos Ae s σ H _ I h) λus s1 _z=>?_) hs rfl));let#[vs,H1,I1,r1,q1]:=_z;let#[l,e,#[xs,hq],q]:=q1;subst e;cases r1 with
 | cons r rr =>
   cases rr;cases r;let ?HI:=?s4 hq;apply call_enumerate_list ?gO λh' hen hit hsz hk=>?_;apply qu7 hen #[?BD,[?BD,s1.heap.objs.size],_,_,H1,rfl,?J3,LP l _ _ (qu4 _),#[?QK,hit],I1.fp2,q]
section
variable[?k6][?fI]
def Nf[?fN][?cF][?CL]
 [?UX]
 [?jS]:?Y3 (?iR) tc:=JH Pv h0 hl hs hd
def Ub[?fN][?n1][?WV]
 [?V0] :
 ∃W:?eS,?g3/\∀i m σ H,?f0 →
   ?a2Z ?iR (?XZ ?iR ?iR):=BJ Pv h0 hl hs hd
universe e9
def Bm.turnedN{X:Cx}[?z]{h':Heap}[?eF][?dJ][?e](k:∀b o,b ∉ fp->?SL)[?hJ] :
 ?C3:=by
 ext VL
 apply ?nS (g':=s.gens) (d':=s.drawn) (ch:=fp) (?h8) (?ZT ?wL) (?ZT #[?xF,?wL]) (λ_ _ _ _ n=>n)
  (λb o hc e=>#[o,?wL]) (λ_ _ e=>e) (λ_ _ _ e=>e) (λb ps e=>#[#v[],by rw[e];simp]) (λm hm=>?_) (λb u e=>?_) ?c5
 . have f:=?q1;ext WS
 . let ?T2:=hm;exact#[o,es',ep,k _ o (λz=>(hf _ z).2.1 rfl) ho,r]
 . apply ?F3 (λc y hc' q=>?_) (λc q=>q) λc ys q=>q;rcases hc' with rfl | hc'
   . exact ?a0W k e
   . exact ?a0W k hc'
def zL{c z TI TO i1 i2:Addr}(h:c ∉ ?eP):c≠z/\c≠TI/\c≠TO/\c≠i1/\c≠i2:=by
 simpa only[qd4,List.not_mem_nil,or_false,not_or]using h
def Ay3{p:?m7}[?DE](h1:p z)(h2:p TI)(h3:p TO)(h4:p i1)(h5:p i2):?TP:=λc hc=>by
 simp only[qd4,List.not_mem_nil,or_false]at hc;rcases hc with rfl | rfl | rfl | rfl | rfl<;>assumption
def of5{p:?m7}[?DE](h:?TP):p z/\p TI/\p TO/\p i1/\p i2:=#[?kY,?kY,?kY,?kY,?kY]
def BW[?aT][?DE]{a b c d e:Value}(h1:?a14 h e)(h2:?dT h TI a b)(h3:?BG)(h4:∃o,?a0P i1)(h5:∃o,?a0P i2):∀c∈?eP,∃o,?a0P c :=
 Ay3 #[_,h1,λv q=>by cases (show ?AI from q)] #[_,h2,?O7] #[_,h3,?O7] h4 h5
def eF{X:Cx}[?z][?T][?a3][?k3]{a b z TI TO i1 i2:Addr}{x y:V}{u v u0 v0:Value}[?XJ]
 [?XU] [?e] (hf:∀b∈?eP,?mB) (hz:?a14 ?y ?aJ) (hTI:?a02 ?y) (hTO:?dT ?y TO u0 v0)
 (h4:∃o,?aY i1=?l/\?d0) (h5:∃o,?aY i2=?l/\?d0) (ru:?c7) (rv:?wO)
 (hz':?a14 h' (rawInt ?v)) (RA:?dT h' TO u v) (htup:?dT h' ?v u v) (hk:∀c o,c≠z->c≠TO->c≠i1->c≠i2->?MX)
 (hT:∀h3,?SV->?a14 h3 ?aJ->?a02 h3->(∃c d,?dT h3 TO c d)->T h3) (hY:?mZ->Y ?iD (?BH)) :
 ∃r,?IB/\?f ?k X.A (?o1 ?iO (?j z) r) (?a0Y ?eP) E ?gR:=by
 apply#[_,rfl,wpAny_letOwnedTupleGo_zip hz' λh3 hz3 Rf=>?_]
 replace Rf:?SV:=Rf
 have ltz:=qc1 hz;let ?SI:=I.tupN (t':=s.toks) (fp:=?eP) (x:=x) (y:=y) (h':=h3) (λc o hc e=>let #[n1,_,n3,n4,n5]:=zL hc;(?cZ c n1).trans (?O1)) hf (BW hz hTI hTO h4 h5) ((?cZ _ (qn3 ltz)).trans htup) ru rv;exact#[?jK,_,I3,rfl,hY (?gB),hT h3 Rf hz3 ((?cZ TI D.TIz).trans (hk _ _ D.TIz D.TITO D.TIi1 D.TIi2 hTI)) #[_,_,(?cZ TO D.TOz).trans RA],hn3]
def Bm.fp5{X:Cx}[?z][?e]:∀b∈[?ZZ 4,?ZZ 2,?ZZ 3,s.heap.objs.size,?f8],?mB:=λc hc=>by
 have lc:=Ay3 (p:=λc=>?Z6 c) ?t6 ?t6 ?t6 ?aU ?t6 c hc;exact I.fpOk lc (?hR lc)
abbrev oG(S:?o2)(N:?FN)(a b:Addr):It :=
 #[λi H=>∃xs ys x y,?dS/\?pG/\?aN/\?mU,
  λi H v H'=>∃p x y,?cV/\v=?e5/\H'=?rC/\(∀xs,?dS->?aN)/\∀ys,?pG->?mU,
  λi H=>∃xs ys,?dS/\?pG/\N xs ys i]
abbrev XX[?d](a b:Addr):It:=oG (SqL K) (?w6) a b
def oX[?cG][?a3][?k3](a b z TI TO i1 i2:Addr)[?XU] :
 Xe P w K ?iO ?pC ?eP z (λi h=>?UA/\?JE/\?a1H i i) where
 mem:=?i1
 obj:=λi h ?FF=>BW hz hTI hTO (Ke h1) ?sG
 keep:=λi h h' ?FF k=>by
  let#[k1,k2,k3,k4,k5]:=of5 k;exact#[k1 _ hz,k2 _ hTI,#[u,v,k3 _ hTO],h1.at λo q=>k4 o q,h2.at λo q=>k5 o q]
 item:=by
  ext dE;let ?NI:=st;let#[xs,ys,x,y,GC,MT,hx,hy]:=hg;ext WA;let ?iE:=ra.get hx;let#[v,hv,rv]:=rb.get hy
  exact wpAny_pyNext_zip_item D hz hTI hTO h1 h2 ?x9 ?B6 (x:=u) (y:=v) ?pU (by simpa using hv) λh' hz' RA HB h2' htup hsz hk =>
   eF (Y:=(XX X.K a b).yld i H) (T:=λh=>?UA/\?JE/\?a1H ?b4 ?b4) D I hf hz hTI hTO (Ke h1) ?sG ru rv hz' RA htup hk (λh3 Rf q1 q2 q3=>#[q1,q2,q3,HB.at λo e=>(?cZ i1 D.i1z).trans e,h2'.at λo e=>(?cZ i2 D.i2z).trans e]) λhn=>#[_,x,y,hn,rfl,rfl,λzs q=>by rw[?rL q GC];exact hx,λzs q=>by rw[?rL q MT];exact hy]
 done:=by
  ext dE;let ?NI:=st;let#[xs,ys,GC,MT,hx]:=hg;ext WA;have la:=ra.length;have lb:=rb.length;apply wpAny_pyNext_zip_end ?dR D hz hTI hTO h1 h2 ?x9 ?B6 ?_ λh' hk=>#[rfl,I.turnedN (t':=s.toks) (fp:=?eP) (λc o hc e=>?_) hf]
  . rcases hx with q | q
    . exact ?i ?m4
    . exact ?r ?m4
  . let#[n1,n2,n3,n4,n5]:=zL hc;exact ?O1
 self:=λ_ _ _ _ _ st h=>qv8 st.1 h
inductive YE[?d][?tK]:Prop
 | mk:∀a b,(vs=[?aS,?bT])->((∃xs,SqL K H1 a xs))->((∃ys,SqL K H1 b ys))->(R ?pC H1)->?NB
abbrev Bd7[?d](ta:TA):TI:=?YO ?NB
def NY:?a0H ?fY ?fY:=?b8
def Vd{X:Cx}[?H][?a3][?k3]{a b:Expr}{ta:TA}{p pos:Pos}(hg:Gl X ?fY)(hm:?cB ?fY=none)(ha:?GI)[?R][?VA] :
 PI X ?iO (?Z3 ?fY ?pO) (Bd7 K ta):=by
 subst hK;intro Ae s σ H R I h;apply Call_ (L8 I hg hm NY (qh1 (D9 (ha pos Ae s σ H _ I h) λus s1 #[vs,H1,I1,r1,q1]=>?_) (by rw[hs,hs2]) (by rw[hs2];rfl)));let#[la,lb,e,#[xs,GC],#[ys,MT],q]:=q1;subst e;cases r1 with
 | cons ra rr =>
   cases rr with
   | cons rb rr =>
     cases rr;cases ra;cases rb;let#[ia,_,pa,_]:=?s4 GC;let#[ib,_,pb,_]:=?s4 MT;have a1:la<s1.heap.objs.size:=by let ?OL:=pa.isList;ext bC
     have a2:lb<s1.heap.objs.size:=by let ?OL:=pb.isList;ext bC
     apply call_zip_2 ?x9 ?B6 λh' hz hTI hTO hi1 hi2 hsz hk=>?_;apply qv8 hz #[?DL,[?DL,?ZU 2,?ZU 3,s1.heap.objs.size,?BD],_,_,H1,rfl,?J3,oX la lb _ _ _ _ _ (zipApart_new a1 a2),#[hz,hTI,#[_,_,hTO],hi1,hi2],I1.fp5,q]
section
variable[?k6][?fI]
def bP[?WL][?n6][?X7][?cF](hl:∀i zs τ H,?g7->?kK->?H9)
 [?UW]
 [?CY]:?Y3 (?qM) tc:=by
 apply#[λi m zs τ H=>m=n-i/\?g7/\?kK,?uQ,?_];rintro i m zs τ H ⟨rfl,hi,pp⟩;let ?EZ:=hl i zs τ H hi pp;by_cases hlt:i<n
 . apply ?a1C ?R8 ?GN;let ?LF:=y;exact hs i u v zs τ _ p (y1 xs qa) (y2 ys qb) pp hp
 . have e:i=n:=O9m
   subst e;exact ?i #[?HQ,hd zs τ H pp]
def rC[?WL][?n6]{g:TG}{tb:TS}{D:Ends}[?bO][?X7][?XL](hl:?ZL ?g7 ?H9)
 [?UZ] :
 ∃W:?eS,?g3/\∀i m σ H,?f0 →
   ?a2Z ?qM (?XZ ?qM ?qM):=by
 ext VT;rintro i m σ H ⟨rfl,hi,pp⟩;let ?EZ:=?OA;by_cases hlt:i<n
 . apply ?a1C ?R8 ?S9;let ?LF:=y;exact hs i u v σ _ p (y1 xs qa) (y2 ys qb) pp hp
 . have e:i=n:=O9m
   subst e;exact ?i #[?HQ,?ES]
def GN[?H][?n6][?D1][?cF][?W7]
 [?UW]
 [?CY]:?Y3 ?pC tc:=?a0M bP
def VJ[?H][?n6]{g:TG}{tb:TS}{D:Ends}[?bO][?D1][?XL](hl:?ZL ?g7 ?DY)
 [?UZ] :
 ∃W:?eS,?g3/\∀i m σ H,?f0 →
   ?a2Z ?oH (?XZ ?oH ?oH):=?a0M rC
universe e9
def preSum_sum[?eD]:∀k,k<=ns.length->?yF (?zQ) k=(ns.take k).sum
 | 0,_=>by simp[preSum]
 | k+1,h=>by
   show ?yF _ k+?nN k 0=_;rw[?I4 ns k ?aF,qf8,qa1 ?aF,List.sum_append,qa0,qa1 ?aF];simp
def NU{X:Cx}[?bN]:?YI X.K:=by
 ext fM;let#[p,ns,rfl,hq,q]:=h;ext VG;ext CV
 have rel:∀(i:Nat) (v:Value),its.toArray[i]?=?A->∃t,v=?h (?nN i 0) t:=λi v e=>by
  have e':?KR:=?gA
  have hlt:?MT:=?RV;have hb:?a2K ns (ns[i]' ?fA):=?d6
  let ?iE:=?ZY ?a8 ns;rw[e']at hu;cases hu;rw[qa0,hb];exact ru
 apply call_sum_walkG (qr1 ?gO ?_);apply#[?v,?U3,?FK,?lW,_,_,?zQ,rfl,?R7,?U9,?_,rel,λh' tk t' k=>?_]
 . let ?y3:=pl;exact ?A1
 . exact pl.isList.at λo e=>?hY
 . intro b hb;have hb':?a1S b\/b=p:=?j1
   rw[qi4];rcases hb' with rfl | rfl
   . exact ?a1O _
   . let ?y3:=pl;exact Nat.lt_succ_of_lt (qc1 ho)
 . ext V9;apply#[?h ns.sum,H,I1,#[t',?_],q]
   have e:?yF (?zQ) ?lW=ns.sum:=by
    rw[qd2,←l1,?I4 ns _ ?aU,qe7]
   rw[e]
def IT{X:Cx}[?H][?bN][?R]:?YI K:=?YS NU hc
def NZ:?a17 "sum" "sum":=?b8
def N5{X:Cx}:Rk X (?c8 .Mult) (?a0D ?iP (i*j)):=opI λ_ _ _ _ _ _ _ hc q=>mul_int q hc
def LD{i:Int}{m:Nat}(h:?OF):?y9 i<=m:=by
 unfold Builtin.Int.intBits;split
 . exact ?mJ
 . rename_i h0
   have hne:i.natAbs≠0:=by
    intro z
    exact h0 (by have:i=0:=O9m
                 simp[this])
   exact(?w7 hne).mpr h
def Jd{i j:Int}{m n:Nat}[?DF](hj:j.natAbs<2 ^ n)(h:m+n<=134217728):?BW:=by
 have h1:=LD hi;have h2:=LD hj
 have h3:¬((?y9 i:Nat):Int)+((?y9 j:Nat):Int) > ((bitsLine:Nat):Int):=by
  have:bitsLine=134217728:=?lM
  omega
 unfold IntMulOk;intro hz;simp only[qc3]at hz;have h4:=hz.2;unfold Builtin.Int.intTooBig at h4;exact h3 (by simpa using h4)
def CU{i j:Int}(h1:-(?fZ)<i)(h2:i<?fZ):?BW:=Ag7.ok (?i ?z4)
universe L2
namespace L2
open PySem PySem.W PySem.Calls PyProof.Rows
abbrev Qa:Nat:=1048576
def Xz:∀[?fT]{x:Int},x∈ns->?RW<=?YZ WData.weightAll
 | ?sE,x,h=>by
   rw[qd3];simp only[WData.weightAll];rcases ?qD with rfl | h
   . omega
   . have:=Xz h;omega
def NT[?fT](h:WData.layableAll [?YZ WData.list]=true):?p3:=by
 intro x hx
 have h1:?s (?EC (?YZ WData.list)<=2 ^ 20)=true:=by
  have:WData.layable (?YZ WData.list)=true:=by simpa[WData.layableAll]using h
  unfold WData.layable at this;exact(Bool.and_eq_true_iff.mp this).2
 have h2:?YZ WData.weightAll<=1048576:=by
  have:=qd5 h1;simpa only[WData.weight]using this
 have h3:=Xz hx;by_cases h0:x.natAbs=0
 . rw[h0];exact Nat.pow_pos ?d3
 . have h4:?RW=x.natAbs.log2+1:=by
    simp only[WData.weight];rw[?G λz=>h0 (by rw[show x=0 by simpa using z];rfl)]
   have h5:x.natAbs.log2<Qa:=by show _<1048576;omega
   exact(?w7 h0).mp h5
def DW{l:OpenLaw}{n:Nat}[?VI]
 [?DJ] (hdf:?TL)
 (call:∀(w:World) (s₀ s₁:Shared) (mg mb:?c6) (fa:Addr) (o:Obj) (pm cd doc:Value) [?b0] (vs:?w) [?eD],(?p3) →
   Ground q loose [] XP w s₀ mg mb ?hC->YP w ?hC →
   ?uL fa=?l->o.data=?oN (docDef ?vM d.params d.body d.scope pm cd doc)->s₁.heap.CodeRec cd ?vM->?Q5 →
   ?I3->?lL->?qP->?G1 →
   ?YD (?kZ l.prog w)) :
 ?ZO WalkO:=by
 intro w s₀ s₁ mg mb G Y fa o pm cd doc dV kV ho hd hcd hD hmg hg args vals as hpre hlay hrd hwl hlo;obtain rfl:dV=?aJ:=Dflts.none hD hdf;obtain rfl:kV=?aJ:=Dflts.noKw hD;let#[a,vs,ns,rfl,rfl,hobj,hints,?i7]:=Att.script_of hn hpre hwl;apply enter_call (?GQ (call w s₀ ?f2 mg mb fa o pm cd doc a vs ns (NT hlay) G Y ho (fd_plain hd) hcd hmg hobj hints ?i7 hg) λr s' hq=>?_);let#[rfl,h2,h3,h4]:=hq;exact#[?i #[?nO,?nO,[],rfl,?T5,?nO,Att.post_true l _,λ_=>#[List.Pairwise.nil,λ_ hm=>(nomatch hm)]],h2,h3,h4]
def walk_ofB{l:PySem.W.OpenLaw}{n k:Nat}[?VI]{K:Params->PySem.W.Frag}{CX:World->sX}{sp:World->Sp}{x:Str}
 [?DJ] (hn2:?B1) (hdf:?TL) (hr:?TN)
 (hY:∀(w:World) [?bS],YP w h->?w3 h)
 (F:∀(w:World) (mg:?c6) (fa:Addr) [?bS],?w3 h->h.Ns ?A3 mg->?Q5 →
   ∃fd:FuncData,(?LQ) ∧
     ∀base:Heap,?w3 ?aG->?xO->Bz l.prog w (K w.params) mg ?aG (CX w) k fa fd [x] (sp w))
 (KR:∀(w:World) (H:Hp) [?b0] [?eD],?qP->(?p3)->Af6 H->SqL (K w.params) H a ?gY->sp w ?c0 H (λv _=>v=?mG) ?j6)
 (hCX:∀(w:World) (H:Hp) [?bR] (e:Value) [?cM],CX w [] H s (?j6) e s'->False) :
 ?ZO PySem.W.WalkO:=by
 apply DW hn hdf λw s₀ s₁ mg mb fa o pm cd doc a vs ns Ac1 G Y ho hd hcd hmg hobj hints hlen hg=>?_;have KX:=hY w _ Y;let#[fd,hb,hF]:=F w mg fa _ KX G.T.g hmg;exact qT KX G.T.g G.T.b G.T.builtins G.T.nolimit hg hobj hints (qa5 ?i7 hn2) hr hF hb (λH hO hS=>KR w H a ns ?i7 Ac1 hO hS) λH e s'=>hCX w H ?f2 e s'
universe L2
namespace Hb
abbrev Aj(f:?aD):?aD
 | 0=>0
 | n+1=>?lP
def Ai{f g:?aD}:∀{n:Nat},(∀k,k<n->f k=g k)->?iB=?sU
 | 0,_=>rfl
 | n+1,h=>by
   show ?lP=?sU+g n;rw[Ai λk hk=>h k ?aF,h n ?aF]
def Mo:∀n:Nat,Aj (?wQ) n=0
 | 0=>rfl
 | n+1=>by show ?lU+0=0;rw[Mo n];rfl
def Cf(f g:?aD):∀n:Nat,Aj (λk=>f k+g k) n=?iB+?sU
 | 0=>rfl
 | n+1=>by
   show ?lU+(f n+g n)=(?lP)+(?sU+g n)
   rw[Cf f g n];omega
def Ba(c:Int)(f:?aD):∀n:Nat,Aj (λk=>c*f k) n=c*?iB
 | 0=>by show ?lO=c*0;rw[qc7]
 | n+1=>by
   show ?lU+c*f n=c*(?lP);rw[Ba c f n,qw7]
def Ee(c:Int)(f:?aD)(n:Nat):Aj (λk=>f k*c) n=?iB*c:=by
 rw[qf1,←Ba];exact Ai λk _=>qf1 ..
def Cz[?u5](m:Nat):∀n:Nat,Aj (λi=>Aj ?h7 m) n=Aj (λj=>?OB) m
 | 0=>(Mo m).symm
 | n+1=>by
   show ?lU+Aj (f n) m=Aj (λj=>?OB+f n j) m;rw[Cz f m n,Cf]
def Cu(f:?aD)(i:Nat):∀n:Nat,Aj (λk=>(if k=i then 1 else 0)*f k) n=if i<n then f i else 0
 | 0=>by simp[Aj]
 | n+1=>by
   show ?lU+(if n=i then 1 else 0)*f n=_;rw[Cu f i n];by_cases h:n=i
   . subst h;simp
   . by_cases h2:i<n
     . rw[?S h2,?jJ,?AN];omega
     . rw[?G h2,?jJ,?B2];omega
abbrev Ie[?fQ]:?aV:=(?fX n).map f
def Jw[?fQ]:(?gU).length=n:=by unfold Ie;rw[qa2,qd9]
def UY[?u0](h:i<n):?a2K (?gU) ?h7:=by
 unfold Ie;rw[qb4,qj4 h];rfl
def Zm[?fQ]:?JX=?gU++[f n]:=by
 unfold Ie;rw[qg6,qb0];rfl
def aX[?XG]:?gU=Ie n g:=by
 unfold Ie;apply qw4 λi hi=>h i (?TV)
def uY(n:Nat):(?b6 n [?lO]).flatten=?JY:=by
 induction n with
 | zero=>rfl
 | succ n ih =>
   rw[Zm,←ih];clear ih
   induction n with
   | zero=>rfl
   | succ n ih =>
     rw[qk3,qm8,ih];have ih':=ih;rw[qk3,qm8]at ih';rw[←qh8,ih']
def Af1{i j:Int}{m:Nat}[?DF](hj:j.natAbs<?qZ):(i+j).natAbs<2 ^ (m+1):=by
 have h:=qf4 i j;rw[qh9];generalize ?qZ=q at *;omega
def VW{i:Int}{m n:Nat}[?DF](h:m<=n):i.natAbs<2 ^ n:=qb7 hi (qf6 ?d3 h)
def SG{f:?aD}{m:Nat}:∀{n:Nat},(∀k,k<n->(f k).natAbs<?qZ)->(?iB).natAbs<2 ^ (m+n)
 | 0,_=>by show(0:Int).natAbs<_;exact Nat.pow_pos ?d3
 | n+1,h=>by
   have h1:=SG (n:=n) (f:=f) λk hk=>h k O9m;show(?lP).natAbs<2 ^ (m+n+1);exact Af1 h1 (VW (h n O9m) (qh0 m n))
universe Hb
namespace Hb
open PySem L2
noncomputable abbrev VI[?fQ]:?q:=(?gU).map ?a8
abbrev dL[?fQ]:L2.D:=?n (Fg (?gU))
abbrev dT(h w:Nat)[?u5]:L2.D:=?n ((?fX h).map ?AK)
section
variable[?H]{H H' H1 H2:Hp}
def Bu[?fQ]:?LZ=n:=by rw[qa2,Jw]
def Cm[?u0](h:i<n):?a2K ?kP (?h ?h7):=by rw[qb4,UY h];rfl
def Ay5[?u0](h:i<n):dX ?kP (?xP:Int)=?c (?h ?h7):=Bp (Cm h)
def V6[?u0]{u:V}(h:?kP[i]?=?L):i<n/\u=?h ?h7:=by
 have h1:i<?LZ:=?LW;rw[Bu]at h1;rw[Cm h1]at h;exact#[h1,(qb9 h).symm]
def Ur[?fQ]:VI ?mI f=?t7++[?h (f n)]:=by
 show(?JX).map ?a8=_;rw[Zm,qb0];rfl
def Qe[?XG]:?t7=VI n g:=by
 show(?gU).map ?a8=(Ie n g).map ?a8;rw[aX h]
def Af2(n:Nat):(?b6 n [?a8 0]).flatten=VI n ?wQ:=by
 show _=(?JY).map ?a8;rw[←uY,List.map_flatten,List.map_replicate];rfl
def Ax6{v:V}{n:Nat}{f:?aD}(h:?Z2 v ?LL):∃a,?f9/\?v2:=by
 ext nD;rw[Ey.mp r]at q;exact ?PH
def RU[?X]{n:Nat}{f:?aD}(h:?v2):?Z2 ?bW ?LL:=?LY
def Hn{v:V}{h w:Nat}[?dH](r:?GX):∃a us,?f9/\?o5/\?yI/\∀i u,us[i]?=?L->i<h/\∃b,u=?bT/\?IS:=by
 let#[a,us,e,q,r]:=r;have hl:?yI:=?G4
 apply#[a,us,e,q,hl,λi u hu=>?_];have hi:i<h:=by have:=(?gC hu).1;omega
 let#[d,hd,rd]:=r.getV hu;rw[qb4,qj4 hi]at hd;have e2:d=?SU:=(qb9 hd).symm;subst e2;exact#[hi,Ax6 rd]
structure Rows(H H1:Hp)(D:Addr)(as:?a2)(w:Nat)[?u5]:Prop where
 same:?kV
 free:?i0
 «at»:H1 D=?c (?n (?w4))
 row:∀j a,as[j]?=?oU->?l0/\a≠D/\H1 a=?a16 j
def Rows.nil{D:Addr}{w:Nat}[?dH](h:?i0):?iW H (?YL D ?f1) D [] w f:=#[Same.new h,h,Ab,λj a e=>?zJ]
def Rows.push{D b:Addr}{as:?a2}{w:Nat}[?dH][?nA](hb:H1 b=none)(s:?C4)(h2:H2 b=?a16 as.length):?a15 (upd H2 D (?n (?w4++[?bT]))) (as++[b]):=by
 have hne:b≠D:=λz=>by rw[z,R.at]at hb;cases hb
 apply#[(R.same.trans s).turn ?kA,?kA,by rw[Ab,qb0];rfl,?UO];by_cases hj:j<as.length
 . rw[qb8 hj]at e;let#[h1,h2',h3]:=?m2;exact#[h1,h2',by rw[Ak h2'];exact s _ _ h3]
 . have hl:j<(as++[b]).length:=?M6;have ej:j=as.length:=by simp at hl;omega
   subst ej;have eb:b=a:=?gA
   subst eb;exact#[R.same.free hb,hne,by rw[Ak hne];exact h2]
def Rows.rep[?tZ]{h w:Nat}[?dH][?nA](hl:?wF):Rep K H1 ?dA ?p8:=by
 apply#[D,_,rfl,.of R.at,?_];subst hl
 have go:∀(bs:?a2) (n:Nat),(∀j a,bs[j]?=?oU->H1 a=?a16 (n+j))->?aB K H1 (bs.map ?jC) ((?U1 n bs.length).map ?AK):=by
  intro bs
  induction bs with
  | nil=>intro n _;rfl
  | cons b bs ih =>
    intro n hr;apply#[?bT,bs.map ?jC,rfl,RU (.of ?_),?_]
    . have:=hr 0 b rfl;ext k4
    . apply ih ?mI ?UO;have:=hr (j+1) a (?gA);rw[?FD];exact this
 have:=go as 0 λj a e=>by rw[qv1];exact ?yM
 rw[List.range_eq_range'];exact this
def Rows.later[?tZ]{w:Nat}[?dH][?nA](s:?C4):?a15 H2 as :=
 #[R.same.trans s,?kA,s _ _ R.at,λj a e=>#[(?m2).1,?DN,s _ _ ?yM]]
def Rows.earlier{H0:Hp}[?tZ]{w:Nat}[?dH](s:?TB)[?nA]:?iW H0 H1 D as w f :=
 #[s.trans R.same,?wM ?kA,R.at,λj a e=>#[?wM (?m2).1,?DN,?yM]]
def Qv{g:TG}[?fI][?H][?n6][?D1][?cF][?W7]
 (hs:∀i x y zs τ H p,?aN->?mU->?kK->?cV->g ?bJ τ (?rC) λτ2 H2=>te τ2 H2 ?OK)
 [?CY]:?Y3 ?pC LU:=GN hn Pv h0 hl (λi x y zs τ H p e1 e2 pp hp=>hs i x y zs τ H p e1 e2 pp hp) hd
universe e9
abbrev newL(H:Hp)[?fQ](Q:?gT):Prop:=∀(D:Addr) (H':Hp),?i0->?cS->H' D=?c (?n ?kP)->?q7
abbrev UR(H:Hp)(h w:Nat)[?u5](Q:?gT):Prop:=∀(D:Addr) (as:?a2) (H':Hp),?wF->?a15 H' as->?q7
section
variable[?d]
abbrev aQ:Sp:=λvs H Q _=>eE λ ?kL (h w j:Nat) ?nX=>Er (vs=[v,?gP]) ?oT ?s6 (j<w) (newL H h (λi=>f i j) Q)
abbrev Hw:Sp:=λvs H Q _=>Xy λ ?kL ?vC ?nX=>Er (vs=[v,?h w]) ?oT ?s6 ?sF (UR H w h (λi j=>f j i) Q)
universe e9
section
variable[?d]
abbrev Xl:Sp:=λvs H Q _=>F1 λ ?iS ?H1=>Er ?SP (?p2) (ns.length<=63) ((?p3)) (∀H',?xR)
abbrev Tg:Sp:=λvs H Q _=>WG λ(a b:Int) (x y:Addr) (n:Nat) (p q:?aD)=>G9 (vs=[?h a,?i5,?iJ,?j y]) (?YV x (VI n p)) (?YV y (VI n q)) (?rH) ((∀j,j<n->?iP a (p j)/\?iP b (q j))) (newL H n (λj=>a*p j+b*q j) Q)
abbrev Q9:Sp:=λvs H Q _=>Ex6 λ(x:Addr) ?kL ?vC (a:?aD) ?nX=>Oy (vs=[?i5,v,?h w]) (?YV x (VI h a)) ?oT ?s6 ?sF ((∀k j,k<h->j<w->?iP (a k) (f k j))) (newL H w (λj=>Aj (λk=>a k*f k j) h) Q)
abbrev Rq:Sp:=λvs H Q _=>WG λ(u v:V) (h d w:Nat) (f g:?iX)=>Xg (vs=[u,v,?h w]) (?Z2 u (dT h d f)) (?Z2 v (dT d w g)) ?s6 (d<=1000) ?sF ((∀i k j,i<h->k<d->j<w->?iP (f i k) (g k j))) (UR H h w (λi j=>Aj (λk=>f i k*g k j) d) Q)
abbrev Yd(_K:W.Frag):Sp:=λvs H Q _=>∃n i:Nat,vs=[?eN,?B]/\?rH/\newL H n (λj=>?HK) Q
abbrev cB(_K:W.Frag):Sp:=λvs H Q _=>∃n:Nat,vs=[?eN]/\?rH/\UR H n n (λi j=>?HK) Q
universe e9
universe Hb
namespace L2
open PySem PySem.Spec PyProof.Rows
structure Ka[?cI][?d][?fL][?nG][?tR]:Prop where
 ex:∃(f:Addr) (fd:FuncData),sJ K C m f/\?qK
structure GZ[?cI][?d][?fL](C:Addr)[?tR]:Prop where
 ex:∃(f:Addr) (fd:FuncData),Mk K C f/\?qK
section
variable{X:Cx}[?H][?XK]{x m f:Str}{p pos apos pos':Pos}{e o value:Expr}[?a3]{ta tv:TE}{t:TA}
def Dr[?tE][?XD][?eC][?cJ][?u1]
 [?CF] (hpl:?dY (·.1)=false:=by rfl)
 (ht:?KS=(do
   let ov ←?h6
   ?jB
   let ?iA ←?i3
   ?xA):=by rfl) :
 ?a2X [] E0:=by
 ext D5;exact UK he c h1 h3 ?lH h2 ?u fF ha hst hpl ht
def M0[?tE][?XD][?eC][?u1]
 (ht:?KC=(do
   let ov ←?h6
   ?jB
   let ?iA ←?i3
   ?U2):=by rfl) :
 ?a2W [] E0:=by
 ext D5;exact pR he c h1 h3 ?lH h2 ?u fF ht
def M1(h:?a2M GZ C)[?eC][?CT][?cJ](hk:j+1<=k:=by decide)[?hH]
 [?jN] (hpl:?dY (·.1)=false:=by rfl):?ZP ?l7 (wN C sp [] E0 t):=by
 ext D5;exact uL h1 h3 ?lH hg hm h2 ?u fF ha hdb he hpl
def Bb(he:?KN)[?R](hb:?rV e f ?g (?eU)=?eU:=by rfl):?ZP (?aP e f pos) (An1 K ta f):=by subst hK;exact zF he hb
def Eu[?XR][?R](hs:?a0G ?iU ?r4:=by rfl):?a0A K:=by subst hK;exact zC ha hv hs
universe e9
noncomputable abbrev TJ:=?a2N ?a6
section
variable{X:Cx}{e v₁ v₂:Expr}{es rest:?eW}{te:TE}{tj:TJ}[?W]
universe e9
universe L2
namespace Hb
open PySem L2
inductive Tn where
 | mi (i:Nat) | sw (i j:Nat) | ad (i j:Nat) (n:Int)
abbrev TH:Tn->L2.D
 | .mi i=>?M [?bB "minus",?B]
 | .sw i j=>?M [?bB "swap",?B,?gP]
 | ?pB=>?M [?bB "add",?B,?gP,?eN]
abbrev tQ:Tn->(?iX)->?iX
 | .mi i,f=>λr c=>if r=i then -(f i c) else f r c
 | .sw i j,f=>λr c=>if r=j then f i c else if r=i then f j c else f r c
 | ?pB,f=>λr c=>if r=i then 1*f i c+n*f j c else f r c
abbrev tnB:Tn->Tn
 | ?pB=>.ad i j (-n)
 | t=>t
abbrev tnA:Tn->Tn
 | ?pB=>.ad j i (-n)
 | t=>t
abbrev tB(B:Nat):Tn->Prop
 | .ad _ _ n=>n.natAbs<2 ^ B
 | _=>True
def Mw{f:Str}{v:V}:∀{fs:?dC}{x:V},?iN f=?bH->?P7=fs.length
 | [],x,h=>by cases h
 | (g,y)::r,x,h=>by
   unfold putF;by_cases e:g=f
   . rw[?S e];rfl
   . rw[?G e,qe4,qe4];rw[qq8]at h;have e2:?a0I f g:=by simpa using λz=>e z.symm
     rw[e2]at h;rw[Mw h]
abbrev T8(H:Hp)(Z:?m7):Hp:=λa=>@ite _ (Z a) ?pY ?a9 (H a)
section
variable[?H]{H H' H1:Hp}{Z:?m7}
def T7[?X](h:¬Z a):?OX=H a:=by unfold T8;rw[?jJ]
def Zx[?X](h:Z a):?OX=none:=by unfold T8;rw[?S h]
def M7:?cC ?P3 H:=λa o e=>by
 by_cases h:Z a
 . rw[Zx h]at e;cases e
 . rw[T7 h]at e;exact e
def BG(h:∀a o,¬Z a->?mR->H' a=?l):?O9:=λa o e=>by
 by_cases hz:Z a
 . rw[Zx hz]at e;cases e
 . rw[T7 hz]at e ⊢;exact h a o hz e
def pG(s:?cS):?O9:=BG λa o _ e=>s a o e
def GL[?X]{us:?q}{h w:Nat}[?dH](hq:?o5)(hl:?yI)(hr:∀i,i<h->∃b,?a2K us (?bT)/\?IS):?Z2 ?bW ?p8:=by
 apply#[a,us,rfl,hq,?_];subst hl
 have go:∀[?dK] (n:Nat),(∀j,j<vs.length->∃b,vs[j]?=?c (?bT)/\?YV b (VI w (f (n+j))))->?a03 vs ((?U1 n vs.length).map ?AK):=by
  intro vs
  induction vs with
  | nil=>intro n _;rfl
  | cons v vs ih =>
    intro n hv;let#[b,e,hb]:=hv 0 ?K;have ev:v=?bT:=?gA
    subst ev;apply#[?bT,vs,rfl,RU (?j1),?_];apply ih ?mI λj hj=>?_;let#[b',e',hb']:=hv (j+1) (by simpa using hj);apply#[b',by simpa using e',?_];rw[?FD];exact hb'
 have:=go us 0 λj hj=>by rw[qv1];exact hr j hj
 rw[List.range_eq_range'];exact this
def Rows.hid[?tZ]{h w:Nat}[?dH][?nA](hl:?wF)(hz:∀a,Z a->?zH):Rep K (T8 H1 Z) ?dA ?p8:=by
 have nz:∀a,?l0->¬Z a:=λa e z=>hz a z e;apply GL (us:=?w4) (.of ?_) (?IZ) λi hi=>?_
 . rw[T7 (nz D ?kA)];exact R.at
 . have hi':i<as.length:=O9m
   let#[h1,_,h3]:=R.row i as[i] (qa1 hi');apply#[as[i],by rw[qb4,qa1 hi'];rfl,.of ?_];rw[T7 (nz _ h1)];exact h3
universe e9
section
variable[?d]
abbrev Ja:Sp:=λvs H Q _=>Ut λ ?iS (n:Nat) (f:?aD)=>Bw (vs=[?aS,?eN]) (?v2) (?rH) (∀H',?cS->?xR)
abbrev Wf:Sp:=λvs H Q _=>Xy λ ?kL ?vC ?nX=>Er (vs=[v,?h w]) ?oT (h<=40) ?sF (∀H',?cS->?xR)
abbrev aR:Sp:=λvs H Q _=>F1 λ(u:V) (t:Tn)=>Dw (vs=[u]) (?Z2 u (TH t)) (∀(v:V) (H':Hp),?cS->Rep K H' v (TH (tnA t))->?lT)
variable(CL CT:Addr)
universe e9
section
variable[?H][?WB][?dH]{ds:?a2J Bool Tn}
abbrev Ls(H H':Hp):Prop:=∀c q,H c=?NE->H' c=?NE
abbrev Kp(H H':Hp):Prop:=∀a,?zH->H' a≠none
def Kp.trans{H H1 H2:Hp}(x:?zW)(y:Kp H1 H2):Kp H H2:=λa e=>y a (x a e)
def Kp.of{H H1:Hp}(s:?kV):?zW:=λa e z=>e (?wM z)
def Kp.upd{H:Hp}{p:Addr}{o:HO}:Kp H (?YL p o):=λa e z=>by
 by_cases hap:a=p
 . rw[hap,Ab]at z;cases z
 . rw[Ak hap]at z;exact e z
def Kp.x{H H1:Hp}{p:Addr}{o:HO}(s:?iK p H H1)(hp:H1 p=?l):?zW:=λa e z=>by
 by_cases hap:a=p
 . rw[hap,hp]at z;cases z
 . cases q:H a with
   | none=>exact e q
   | some o'=>rw[s a o' hap q]at z;cases z
universe e9
section
variable[?d]
universe e9
section
variable[?H][?WB][?dH]{ds:?a2J Bool Tn}
universe e9
universe Hb
namespace L2
open PySem PySem.Spec PyProof.Rows PySem.W
section
variable{X:Cx}
abbrev V9(_i j:Int):Prop:=j≠0/\j.natAbs.log2<9000
def V9.of{i j:Int}(h0:j≠0)(h:j.natAbs<2 ^ 9000):V9 i j:=#[h0,(?w7 O9m).mpr h]
def Kx:?a38 V9 (i.fdiv j):=opI λ_ _ _ _ _ _ _ hc q=>?NN hc.1 q (?i (PyProof.noPylong_of_log2 hc.2))
abbrev insAt(k:Nat)(y:α)(xs:?f3):?f3:=xs.take k++y::?oO k
inductive GY(x:V)[?dK][?cL]:Prop
 | mk:∀(l:Addr) [?a4] (k:Nat) (y:V),?mD->(vs=[?rU,y])->?rX->(?H2)->?a3B (insAt k y xs) ?ML
abbrev UC:?kC:=λx vs H Q=>?ML
def Vj:MtM X "list.insert" UC:=by
 ext CP;let#[l,xs,k,y,rfl,rfl,hH,hk,hz,q]:=h;cases rx;let#[u1,u2,rfl,r1,r2]:=X0 rv;let ?bY:=r1;ext tJ
 have hsl:((k:Nat):Int)<?gL:=by
  have h1:?ZJ k:=O9m
  have h2:sizeLine<=?c2:=?b8
  have h3:=qa5 h1 h2;omega
 have hfit:¬?a35 (! ?FJ ?eO):=by
  rw[?QQ ?aF hsl];exact qe5
 have hsz:?ZJ its.toArray.size:=?yV
 obtain⟨ki,hki⟩:∃ki:Int,ki=?eO:=?bX
 rw[←hki]at hfit ⊢;have hm:=AutoSeq1.list_insert_list_int_val_1 l ?I n ki t u2 hfit hsz;apply ?mM F.slot_list_insert ?iT F.entry_list_insert (F.args_list_insert_3 _ _ _) hm ?q6;apply#[?t,_,?zZ (its':=insAt k u2 its) hH e ?_ ?_ ?_,rfl,q]
 . have hkl:k<=its.length:=O9m
   have hkn:ki.toNat=k:=O9m
   simp only[qd2,hkn];rw[?B2,?K0 hkl];refine Array.ext';simp only[insAt,Array.toList_append,Array.toList_push,Array.toList_extract,List.extract_eq_drop_take,List.drop_zero,qy1];rw[qh8,ql5 (i:=its.length-k) (by rw[ql8];omega)];rfl
 . exact(r.take k).append (?F r2 (r.drop k))
 . unfold insAt;rw[qa8,qe4,qe2,ql8];omega
structure A03(K:Frag)(D:Addr)(m:Str)(f:Addr):Prop where
 rd:readsIn K D (?a7 "type")=true
 fc:findCls K ?dA (?a7 "type") m=?c (.val ?bM)
 ga:specialIn K ?dA "__getattribute__"=?c (?c (?O "type.__getattribute__"))
 kp:?lX
structure Ag1[?cI](K:Frag)[?fL][?nG][?tR]:Prop where
 ex:∃(f:Addr) (fd:FuncData),A03 K C m f/\?qK
def UL[?XK]{x m:Str}{np apos pos:Pos}[?cN][?a3]{t:TA}{pl:?r0}(h:?a1E Ag1)[?eC][?CT][?cJ][?u1]
 [?hH] [?CF] (hpl:?dY (·.1)=false:=by rfl)
 (ht:?a2S (?Y1 (?bZ x np) ?b1)=(do
   let ov ←?a2S (?bZ x np)
   ?jB
   let ?iA ←?i3
   ?xA):=by rfl) :
 PE X (?Y1 (?bZ x np) ?b1) (tCall sp [] E0 t):=by
 let#[f,fd,B,hb,F]:=h.ex;ext Q;apply qq4 (pl:=pl) (?a21 I) ht;apply method_cls ?aR B.ga (cls_value ?aR B.rd B.fc rfl ?_);apply qs4 (h₀:=X.base) ?pW B.kp (D9 (ha pos Ae _ σ H _ (?g6) h) ?z7) hst hpl;exact cH F ?lH hb ?u fF I1 r q
universe e9
universe L2
namespace L2
open PySem PySem.Spec PyProof.Rows
section
variable[?jT][?T][?a5]
def Jn{j t:Addr}{n:Nat}{vs:?cR}{x:Value}[?eA](g:s.heap.IsTupleIter j t n)(gt:?BB t vs)(gx:vs[n]?=?bH)
 (k:∀h',h'.IsTupleIter j t ?mI->?jF j ?y h'->Q x ?gR):?YH ?dN (Builtin.SmallTypes.nextOf ?A6):=by
 let#[o,q1,q2,q3]:=id g;let#[p,p1,_,m,p2]:=gt;unfold Builtin.SmallTypes.nextOf;apply qa7 (wpAny_callSpecial?_slot (name:=Str.ofString "__next__") ?J9 qo8 (qn2 qo8 ?J9 F.entry_tuple_iterator_next ?_ (F.args_tuple_iterator_next_1 _)));show ?a08 (field ?A6 0>>=_);apply qa7 (qi9 q1 q3 (x:=?j t) rfl ?_);show ?a08 (if ?IU then _ else _);rw[?G (show ¬(?IU) from qe5)];show ?a08 (field ?A6 1>>=_);apply qa7 (qi9 q1 q3 (x:=?h n 0) rfl ?_);show ?a08 (seqItems? (?j t)>>=_);apply qa7 (qn8 p1 p2 ?_);simp only[qd6,gx];apply qa7 (wpAny_setField q1 q3 ?K (qc9 #[x,rfl,qc9 (k _ ?_ (Heap.SameBut.update ..))]));exact#[_,?FO _ q1 (Obj.isFreed_of_fields (?L3 q3 _)),(Obj.cls_mapFields ..).trans q2,by rw[?L3 q3];simp[rawInt]]
end
mutual
#check(4,[?a,?b,(?zF),spot,some,if_neg,(i+1),.ref,(?j7),∀{t:?v},a,Nat->Int,prodN,if_pos,.int,?f ?c,wpAny,?m rfl,addR,(?xI),∀(t:?v),a,(t l),Nat->Nat,.inl,.(by intro z;cases z),List,2 ^ b,2 ^ c,beside,blendR,(-1),.(by grind),this,.inr,2 ^ π,Lat.Mat × Lat.Mat,In.row,(t j),?m ?c,∀{f:?k},a,(w+n),?e o,moveR,shrS,sumN_all0,.lst,(n+1),∀(R B:Mat),a,∀(n w:Nat),a,h.pos,#[x,hx],none,s.heap.objs.size,decide,(t k),(j+1),s.heap,sumN_one,∀{n W w i:Nat}{G:?aI},a,.(by split<;>omega),∀(f:?k),a,(i-d),X.env,?a7K ?_,T k k,(by ext x),R j ?K,(?yA),funext,A.fdiv B,∀(I:?TF),a,Nat->Prop,kv.1,z.symm,(?aM),qb2 _,r<=j,Mat × Mat,(R,B),.(by exact this),RelV,unit,IsPair,?f e1,.none,(c+1),h.zero,(?gR t ?d st),Good,?h p,Ci ne,(i-?s),∀(hp:p<n)(hq:q<n)(ne:?f4),a,2 ^ (2*π+1),(model prog w),.nil,D i j hi hj,.type,(s l),(A p),(w+a),r<=n,lookI,(d+1),p.1=k,?h a,∀(ms:?dL),a,∀(s:?I),a,∀{kvs:?c7},a,∀{P:Program}{w:World},a,.(by by_cases e:j=k),(by ext a6),Q .non H',.ins,(k+1),V.int,(?gR t i ?e1),.tup,j<=i,R r c,(p+1),∀{G:?aI}{M B0 R B:Mat},a,∀{n w:Nat},a,?l f m,Bits,Same H H',I.hok,(?fQ),.(by simp),H.hi,h.old,?m e,?y (?pR),T k c,(?tC),A p c,r<=i,?f e,∀(K:W.Frag)(CL CS CW:Addr),a,∀{ms:?dL},a,∀(x:?TM),a,.(by rw[this];simp),.(by rw[Bu];omega),.(by rw[?e0]),.(by unfold moveR),false,IsZip,(i-(e+1)),(1:Int),spot<=i,(t i),R p c,.cons,downS,T' k k,(?c3),(?B w T P),?a7A A,ih O9m,2 ^ β,h.inc,∀{A:Around}{E:?L0},a,∀{kt t:?v}{hd:?k},a,.(by rw[?o]),∀{C:?aI}{δ:Nat},a,∀(n W:Nat),a,∀{R B:Mat},a,∀(hi:i<n),a,w1.extBut,?h b,?e v,r1.fdiv r2,λc hc=>?_,(f+d),kvs.map,?lT V,?a6A p,(A q),(H0:Hp),fs.lookup,?m z,i≠j,?y (?rU),(tr T),Gq ne,t ?d,s.heap.IsTuple,(?eE),.builtin,∀{X:Cx}{Ae:Bi}{σ:St}{H:Hp}{s:Shared}{a:Addr},a,∀{Q:?L0},a,∀{n p q:Nat},a,.(by exact ?j7),∀{K:W.Frag},a,∀(hp:p<n),a,(?vS),(-q),?f z,(kt i),Ec π b r,spot<l,hst.lt,keep,(k,v),λ_ _=>rfl,Option.none,Aj f n,O5 kvs k,(?aD).natAbs,put2,(?jC+i*?hJ),i-d+1,(?gT).natAbs,h.low,?y Expr,(qh7 ?eS),?y V,Value.ref,hx c hc,x.ne,λr c hr hc=>?_,(?b0),(?fM),Part,?a71 t d,λz=>?_,?h ?Z,R j c,∀(H:?xT)(h:?wM),a,∀{R0 B0 R B:Mat},a,∀(a b c d:Int),a,.(by rw[?dJ]),∀(hs:?m5),a,∀(i j:Nat),a,cM π i,(a==sysModules)=false,qc4 _ rfl,p≠q,(?bG),(?y3),call,?f h2,?l f k,(λj=>T j ?K),(pb R t k ?iV).natAbs,(?lV-1),addS,λ_=>0,T j c,?bD ms k,R i c,R k ?a1,r<=w,(model ?mI X.w),R' p ?u,kt j,U k c,Itm d o,cpos,Dg O9m,f<=j,(0:Int),(?s6),A / g,(?TC),Addr->Prop,R' p ?K / ?aD,?f e2,(?B2),λp=>?GM,#[h1,h2],T i c,?l f n,Bx e,x.sm,Sd f ne,(Q c),(λr c=>R r ?gI),w3.extBut,.(by ext h4),?y Key,(tr R),absurd,(?TH),(?k9),addR_row_ne,Value.isInt,(s c),.(by ext h5),v ?K,.fields,(n+w),λj c hj hc=>?_,hst.zero,?f h1,ObjOk,insT,?y Addr,R l ?u,cS π i,r≠p,∀{kvs:?iH}{vs:?a4S κ Value}(r:?hR),a,∀(h:?G9),a,∀(bb:?QG),a,.(by apply qt6.mp λy=>?_),.(by apply qk1 ?eS),∀(hi:i<n)(hs:s<=i),a,∀(R:Mat)(p q:Nat),a,∀(s:?aO),a,.(by simpa using hb),.(by simpa using q),∀{H H':Hp},a,?l (?a57 ?K) r,"zip",?l ?fA i,ms.map,.dK [],?m e1,λj hj=>O9m,Pv i zs τ H,h.red,(Gv R p),"dict",Array ?tS,(π+1),A r c,?m e2,.(by simpa using e),(L+2),2 ^ δ,Bx ?c,Nk ?a3 a ms,KV kvs vs,λ_ _ _=>rfl,R j ?u,insS i ?d st s',k+m<i,eval,j=spot,d<=i+1,λk hk=>h k O9m,(n w:Nat),Shared->Prop,(i:Nat),(R j),Lat.shrS,(n W:Nat),(r-1),.seq,R ?d c,2 ^ η,s2.1,(?rR),hd j,(s:?I),?e p.2,(?mT),?y Int,?a4S κ V,H.part.inc,(by ext cH),h.gc,c<=?dO,x.2.1,[it],spot<r,m<=n,?fH=0,insAt,x.nu,?e x,Sum.inl k,(n-k),(?bU).natAbs,(?h z),x.2.2,R ?gF (t ?gF),W0 s r c,V r c,kvs.length,(j-1),?m h1,S.same,λl h1 h2=>?_,qa3 _,(?pK).1,T r ?gI,insS i ?d st ?aP,h.st.lt,b+i+3+2*π,R k c,.bool,.(by intro X hP hw hK hc i Ae s σ H E I hf st hg;subst hP hw hK),∀(_K:W.Frag)(CL CS CW:Addr),a,∀(n W w i:Nat)(G:?aI),a,.(by rw[move_row];unfold mvI),∀{prog:Program}{w:World},a,.(by rw[←Ba,←Ba,←Cf]),∀(e:?k5),a,∀(h:?k7),a,.(by by_cases e:?bF),.(by exact True.intro),.(by clear hz2;omega),∀(ok:?LK),a,∀{n W w r i:Nat},a,∀{s:?aO},a,.(by by_cases e:j=p),.(by by_cases e:r=p),.(by exact qj5 _ g0),∀(K:W.Frag),a,∀{s:Shared},a,2 ^ ?z4,Hp->Prop,Z r c,Fs [] kvs,(f+m),ChainAt,I.hok.fresh,H a=?e ?c9,?UW<0,Fl n w r E e T,?a4K e,k+1+m,(λc=>c<w),λk hk=>?_,?e _,Pv i σ H,(β+?f1),(B5 A p u),#[t,rfl],?a4S TE TE,?a50 ?W,as.map ?sQ,.(by decide +kernel),x k*?fI,h.st.inc,(?pO),(?vJ).get?,.frz o ?c9,kvs.length<=sizeLine,s.1 i ?mM,h x y hx hy,x1*y2-x2*y1,β+(π+2),Nl n w k T,?a4S ?gB V,(i+d),pb R t k m,(t ?dC),Lat.addS,λx a=>R x ?bB,(n-1-k),(?DA),(?TK),(?lO),T j j,(upd H' a ?c9),a m*U m c,Wr ?c1 e,?J hj,dd.typeIs,qa7 ?_,(?TD),call_meetsIn,h.st.pos,H d=?qI,Dl w r T' t,{ s with heap:=h' },R r x,Pv ?g,0<?aD,?I->Prop,?FX n w T,qc9 ?_,w2.extBut,ih ?c,(?GO),(f j),Option,j<spot,(n:Int),Rd H a ?c9,?l ?kN i,?l ?kN j,H' a=?qI,λx a=>S x (n+a),?a2Z e,"range",(cK ms),.Call,spot<i,?s6<=i,S1.same,#[a,b],?m h2,?f ne,u ?aW,2 ^ ?hJ,(λj=>?aD),hst.ge,h'.get?,.(by simpa using e1),blend_row_p ne,X.prog,h.ker,b*f x,R i x,(?dO),?lT ?tS,r1-?dA*r2,Nj k k,(?lA).congr,h.IsTupleIter,(β-(η+1)),?P R i s,#[y,hy],?h t,(f i),Aj (λi=>Ta i*A i 0*?WP) ?T,kvs[i]?=?z8,?gR t ?d st j,R' p c,∀i c,?cB->?IL,Ot es ms,f i / g,s.heap.get?,?aJ=k,starEach,β+?zZ,(?r P i j 1),?l ?fA ?g,(?h it),∀(K:?CT)(h:?UQ)(hi:?cB),a,.(by intro Ae s σ H xs us Q I r h),∀{A B r1 x1 y1 r2 x2 y2:Int},a,∀(kvs:?iH)(k:κ),a,∀{n w r:Nat}{E:Nat}{e:Int},a,∀(l r:?I),a,∀{R B:Mat}(h:?PH),a,∀{R:Mat}(h:?a5Z b R),a,.(by rw[?L]),∀{K:W.Frag}{CL CW:Addr},a,∀{es:?y ?qT},a,.(by by_cases e:?hX),.(by rw[←rel.length]),.(by simp[Value.isInt]),∀{w r:Nat}{R:Mat},a,∀{π b spot:Nat},a,∀(h:?HH),a,∀(u v:?k),a,∀{i:Nat}{R:Mat},a,∀{G:?aI},a,∀(h:?G4),a,∀{u:?k},a,(?QU),lo<=n,#[?AH,[]],2 ^ 61,A-?aG*B,j<i+1,?m a1,(?cK,?hW b ?a9),?g3*f n,this.table,(tr S),lx.nb,?eQ R t f m,?aB=0,field,w5.extBut,Aj (?r8) i,M i i,r≠i,λx hx=>?_,Aj _ ?T,its.toArray,λj h1 h2=>?_,(kvs.any ?yV),?b8 "tuple",up c _ q ?aC,Lat.Shares,(v:V),(?A2),(?RR),(∀c o,c≠z->c≠b->c≠i1->c≠i2->?Q5),?HN n w M,h'.IsTupleIter,i<=kvs.length,?a2M i j,(M:?fW),2 ^ Y,?Q t p ?s ?aP d,(?G (?w z)),s2.bwd,?b8 ?h8,qk9 O9m O9m,Kp H H',Cm ?c,qa4.mp,(i<n),(tr A),pT n B R a b,h _ O9m,(?b8 ?hH),a9 kvs k,Ne.symm,(SK K a b),(w+c),.ellipsis,qn6.mp,intKind prog w,(n<=1000),?f (?RP),?Q t p f ?aP d,(l r:?I),#[u,hu,ru],i+1-d,λl=>?gT,upd H a (?kP),(?zN),Key × V,?e y,h1.symm.trans e,G8 ?F,(vs=[?b0]),?Q t p f s m,h.good.rest,2 ^ (j-f)*μ*?eF,?O9*h,t j<t k,(W<=1000),[a,b],D.nx σ H,(-(?CW)),?gE+1,?CE hc,?n4 b=?O,(u l),?y (?KR),λj c hj=>O9m,?a71 ?bR d,(tr Nj),BB.bo,.(by simp;omega),?l (?HS) m,(m+d),?m5->st<?dO,?e (?kP),(m+1),prs.drop,(?n3*f j),SameX,(?rD ry),?a72 r c,Sum.inl p.1,(p q:Addr),?aR y u,y=?d8,DictEntry,W0 s j c,λa c=>?UO,base l h1 h2,hst.pos,[e,f],(?AJ),Aj f j,K.pos,?cW=0,t k=k,(by rw[e];ext jO),λj=>?l6,Good.refl ..,V8 r b H H',λk=>B k a*?wG,λr l=>R r (aT t k c l),?n i,e.symm,h.good.trans,kV_is,H b=?e u,(?r5),?jC+spot*?hJ,Kz R t i ?cM,?y α,(?G (?G z)),?lT Lat.Mat,s.heap.push ?LQ,ts[i]?=?e t,(z▸hN),M a ?K,Nk ?a3 b ns,?m hi,?a6E h,λi hi=>?_,Itd hi n,Int × Int,∀j,j<r->?l6∣e,qg1 ?iJ,Nat->?k,s1.heap.push,?f a1,w4.extBut,(?VV),(-(?a3L m (t ?gF))),(?AB).2.2,?aR (kV k) u,?iZ*?kY,?xI+d,λl hl=>?_,{ s with heap:=h',toks:=tk },lx.nr,2 ^ (c+b),bb.2.1,(x=?bG),(M:Lat.Mat),?l f' m,?H*?eF,?a2P ?fN m,(Lat.one,Lat.one),?W j hj,(λa=>a=nm\/a=r2\/a=b2),λd hd=>?_,h.tab,h c hc,?e ob,?a3D 1,(?lY).natAbs,V.ref,(?kR),λb hb=>?_,Io n w r e T,(?ME t ?d st),(by unfold cM;omega),(K:Int),I.laid,if i=j then 1 else 0,?l f ?qG,?G h,(?n3),(-(b*q)),Shares,In.zero,hst.inc,(i+1+m),(t:?v),h.st.red,qf6 ?aE O9m,h.st.zero,(by kernel_rfl),.dK kvs,(?k),St->?jZ,2 ^ e,(?BE),(?y8),Rd H a (.dK ?m3),(?e (w:Int)),spot*?f1,bs[i]?,(p L R nm:Addr),Nat->?tD->?YQ,Kz R t i r,h1.2.2.2.1,?qX j hj,f i∣f j,Value,∀(D:?RE z a b i1 i2 t1 t2)(gz:?a48 ?a3 ?aV)(ga:?aT ?a3 a (?h i1) (?h i2))(gb:?aT ?a3 b u v),a,∀(g1:?BG i1 t1 n) (g2:?BG i2 t2 m) (e1:?dP t1 xs) (e2:?dP t2 ys),a,∀{kvs:?kW}{xs:?y1}(r:?TG),a,.(by repeat (first | rw[?q] | rw[?mA] | rw[?f ne'])),∀{C p r b:Addr}{sv:?dE}{n W:Nat}{s:?I},a,∀{ns:?iG}(x:?FD),a,∀{z a b i1 i2 t1 t2:Addr}{n m:Nat}{xs ys:?hI},a,∀(hp:?a37 C fs)(sx:?yP),a,.(by rw[?o,?q]),∀{s:?aO}(h:?T1),a,.(by rw[?f y,?o]),.(by rw[?m y,?L]),∀{p C dx:Addr}{fs:?a4S Str V},a,.(by apply#[?aA,?aA]),.(by exact(show False from r).elim),.(by apply ?R ?s7),∀(hz:∀c,c<?dO->?iQ),a,∀(x:?uT),a,∀{a b c d:Int}(h:a*d-b*c=1),a,∀{n w r:Nat}{e:Int}{T:Mat},a,∀(he:0<e)(h:?sT),a,∀{vs:?q9},a,∀{D:Nat}(hD:Ox m G M D),a,∀(e:?lW),a,.(by apply Ai ?rS),∀(XN:∀c,G c->c<W),a,∀(h:Heap)(a b:Addr),a,∀{R:Mat}{p q r:Nat},a,∀{n p:Nat}{A:Mat},a,∀{R B R' B':Mat},a,∀{X:Cx}{pos:Pos},a,∀{n W w i m:Nat},a,∀{M B0 R B:Mat},a,∀{N:?fW},a,∀{n W w lo:Nat},a,∀{kt:?v},a,?a5B H N,I2.thaw e2 hb,stored,#[_,?f3,rfl,rfl],#[as,a1,a2],dZ n w i j f l r,List.range,?a7M H' f,"keys","dict.update.loop",?f e4,D i i hi hi,?l ?fA r,x.same _ _ e,?y Str,h.prod,?a2U R' B',.(λM' e=>by cases e),s.1 j ?K,qf1 ..,A.handled=none,?a3J p,?a7D y1,λj hj hne=>?_,id hin,?a3J i,YJ ?a3 a b,?a6B ?g R0,.(by simp[hlt]),pT n B0 M a ?K,?f x1,Lat.blendS,"list","__eq__",λk hk=>O9m,mixKind ?mI X.w,?a6A D,k5.objs.size,#[kr,ht],?f e3,h n O9m,a∈as,sumN_pair,(?lX).natAbs,?eJ->Hp->VK->Prop,∀j,j<i->t j<w+n,2 ^ i*μ,(?oY).1,EU T s k,?a71 t 0,blend_row_ne,?f ?aE,(?jA).2,?a7L ?J5,?b8 ?vP,h.back x hx,?a7A (Ge A p),Str.ofString "__next__",BO n W s,R k ?K,congrArg,#[_,rfl,h],λy=>hne y.symm,po x x1 x2,Aj (λj=>a j*U j c) m,Ds n W w i G R0 B0 t π b ?d R B,ib.toArray,.(by rw[←qe8];congr 1;omega),?l ?rF k,Rd H a (.dT kvs),#[ok,ov,hit],(κ*D),.(by ext nN;exact z),I1.kept,Dd e c,#[p,eA],?l ?rF r<=E,?l (λl=>f (k+1+l)) ?l2,?l _ m,(?lA).mix,i*D<=?z,h.detsD,λk _=>?_,oH i M,H b=?e (?bS (k.map kV)),?f ?QY,?a6A a,sq.flip,?n (hi-i),∀l,?e3->l<i->?dO<t l,qi0 ?aE O9m,Array ?qT,xs=[?b0],s.TypeIs,r1≠0,#[λj k _=>?kM j k,λj c _=>?tA j c,λj _=>?lF j,λk j _=>?t8 k j],(N:?fW),spot+1,HT.sIx,λr x hr hx=>?_,?a5U R v,h.col0,?a3L m ?u,?pN<=r/\r<i,?a2P ?c8 m,?aS (?n9) i d,2 ^ b0,(i:Int),Js n W w i G R0 B0 t π b,∀j,j<i->t j<W,?jB j hj,?a3D 3,?yU vs k,ms.length==ns.length,∀j,j<r->t j=j,w+n<=W,?y (?gB × Addr × Value),2 ^ (z-2),mixKind P w,Lat.beside,o.data=.dict es ep,kk b ob hb z,K.head,(?a5L R),?oN ?mW ?lS g a b,.(by decide),?aS e j j,?f x2,up b _ q ?aC,∀k,k<n->0<f k,?bD ns k,?hW e ?a9,λ_ _ _ _=>rfl,A a b*q b,mvI i s r,I ?d s',h.st.s0,D6 (?a2L l spot) (?a2L l i),∀j,j<r->t j<w,Fs kvs more,?qM p H H',?P B i ?d,x.same.trans,hst.lead,R i ?a1,valueAt,λkv=>?a0 (?n5),.Attribute,R1 r c,?a6V k,Mv kvs k v,hb.typeIs,.(by ext DU;ext a6),ia.toArray,?cS ?aY i (?hU) ?g,(β+c),rawInt,Ai ?x3,?n 0 0,?e ?e6,T i d*X d j,b2 a ha,[a,b,c],?a3D 2,?a7D y2,M k ?eP,.(by omega),I ?d s,"StopIteration",?a5G h.pv,Aj (λk=>a k*?fN) m,(?y3).is,K.zero,x m*U m c,?fD i ?d ?dZ ?aP,?a6E ?iK,IntMulOk,x.natAbs<=?H,kvs.length<sizeLine,λc xs q=>?oM,S j (u j),?yS hx k kr v0,?f hne,?m e3,∀j,j<i->G ?K,Em n w T T',F2 π b i,Lat.downS,Ai ?kB,I.ok.hd hc,#[T',s1,s2],#[h1,_,h3],I.bare,?Q t p f s d,#[rfl,?_],r=spot,?l ?fA ?bP,?m ?aE,a2 a ha,λk hk hne=>?_,?y ?tS,Aj (λk=>x k*?a2T (U k) q) m,?jE ?cK,st.lt j hj,[?bG,?d8],?bD ns j,s.1 ?d ?mM,?a3D 4,R0 r c,(j4▸hi),r2≠0,P7 hA hB,wpAny_callSpecial?_slot,tPairs,Aj (λk=>a k*?a2N (U k)) m,?f a2,?m hr,?a7B ?d ?tG,?a3W EuA r2,X.calm=true,q.natAbs<=?H,U m M l r,(?mO).natAbs<r2.natAbs,.bl true,Builtin.SmallTypes.nextOf,?a2Z ne,h.s0.inc,(?h j),moveS i ?d x,one j c,.(by rw[h,qd7]),?a44 p (?bS [kV k,v]),0<=?wG/\?wG<?aD,T' k c,λr x=>?_,U m M' l' r',?a7O (?eR) m,blendS ?d i x y z u ?aP,?a3B H s',s.heap.IsTupleIter,x2*r1+-x1*r2,(! ?lD),(sv:?dE),?W k hk,y.natAbs<=?H,x.keep,?m a2,λj h1 h2=>O9m,?m hj,.(by have:=h.pos;omega),values,#[i,hi,rfl],h.get?,spot≠i,?a7A (Ge A ?bV),Aj (λj=>(?gK*?lY)*?FS) i,Builtin.Dict.samePairs,#[r,t,IU,hst,hz],(i-1-k),h k c hk hc,(?a3L ?iV c).natAbs,?w7 e2 e3,qf3 _ O9m,2 ^ (j-?s)*μ*?z,#[hp,g,d,tk,os],?eC f i j x ?lS,λy a=>R y ?bB,a*u c+b*v c,{ cls:=?b8 "dict_items",data:=?gL #v[?h d] },fs.findIdx?,?l f ?T,2 ^ (zz-2),?y (?lT Expr),beside_lo,y7.zero,(?jA).1,run d hd,.(by rw[eA];ext jV),s _ _ e,In.sum,Same H0 H,?C R ?d i x y z u,P.zero,#[y,H2,I2,ry,q2],(i-1-j),.(show b+c+1=(c+b)+1 by omega),ha.typeIs,D j j hi hi,?a3C W M,(?e M),hf it ?cU,b*f j / g,B.fdiv r2,(zt4 ?a3 a b).objs.size,qo3 m0 m1,Lat.Mat->?YQ,h.partOf,Hq W (s'.1 i) st,tupleKind,Dg (by ext jP),Nj k l,β+i*?f1,"__ne__",#[z,hd,vs,rel,dd],?n (w:Int),λr l=>R r ?u,((0:Nat):Int),R i ?pE,?a47 p,c<t j->?eU=0,.(by have t2:?gR t i ?e1 i=kt i:=?R1),.(by have D:∀i j,i<n->j<n->?JG=?sY:=h),.(by let#[dx,fs,h1,h2]:=x.ob;let ?uX:=x.rw;let ?IG:=x.bk),.(by rw[?o,?o,?o]),∀{p L R nm:Addr}{n w:Nat}{M:?rK}{l r:?I},a,.(by let#[σ',H',I2,e2,q]:=hq;exact#[σ',_,?uU,q]),∀(h:∀l,?e3->l<i->?TE),a,∀{x y z u:Int}(e:lN π (?VR) (R i ?mM) x y z u),a,.(by exact ?a6C x0),∀{i:Nat}{T:Mat}(h:∀r c,r<i->r<c->T r c=0)(s:?v),a,.(by let(?a38 _):=x.ob),∀(hG:∀r c,?iO->r<i->G c->?F2),a,∀(hq:∀k,k<i->(Kz R t i k).natAbs<?A)(hi:i<n),a,.(by have e':¬q.1=k:=?P7),∀{te:TE}{D:Addr}{Q:?jZ}{τ:St}{H:Hp},a,.(by unfold mvI;split;omega;split;omega),∀{C:?aI}{R:Mat}(h:Rn n C δ b R),a,.(by let ?D8:=?l9),.(by let ?D8:=kX ?c1 e),.(by rw[?fY,?o]),∀(hq:q<n){k:Int}(hk:?YD),a,∀{x:?aO}(h:?a2G β x),a,.(by rw[?M2]),∀(x:?ZE),a,.(by let#[u,rfl,ru]:=Tc r;cases ru),∀{Q:?mN->?i1},a,∀(A B r1 x1 y1 r2 x2 y2:Int),a,∀(h:?a5D n G),a,∀(spot i:Nat)(A B g a b:Int),a,∀{y:V}{u:Value}(ry:?qR),a,∀(hn:i<n)(hp:p<=spot\/p=i),a,∀(ms ns:?dL),a,∀{T Nj:Mat}(s:?FU),a,∀{T T':Mat}(s:?zY),a,∀(P:?eQ R t ?s i),a,∀(xs:?eJ)(H:Hp)(Q:VK),a,∀(ns:?dL),a,∀(hn:?vD),a,∀(p:Nat)(u:?k),a,∀(hA:0<A)(hB:B≠0),a,∀(hij:i<j)(hj:j<m),a,∀{b p spot μ:Nat},a,λd hd=>?qD (m3 d O9m) O9m,.(by ext a1M),?a3Y 4,?a2Y i s,Nat->?eJ->?tE,D j j hj hj,(qn3 lz),λc=>?cA+k*A q c,c<w->i<c->?g2=0,h.hd j hj,(?rC g).trans,if k=a then 1 else 0,(?kJ).set,(←?PQ other),x.natAbs<?A,s _ _ ?iS,wpAny_attempt,?iW<=?z,hst.mono,λr c hr=>Bx O9m c,?k3 m i j f,Heap.DictOf.new,.(by rw[eB];ext jV),λl h1 h2=>?a5G h,Meets.of_wp,?a50 hp,?a7B i ?pQ,?A0 t i s d,?a2O H M,λc _=>?_,.(by rw[E6];exact d),Value.int,(?cW).natAbs,atKey (q::qs) k,?oT i2 t2 ?qJ,.(by show ?fS<1;decide),#[rfl,rfl],B5 A p ?dG,as[i]?=?e c,(?z5 ?vU),?bG::u::more,#[ok,ov,h1],Rh R t j ?CP (t m),Rh R t j ?CP c,λi j=>T j i,V7 n w T Nj,#[?j2,?c3,?aM,h0],λr c hr=>?_,Straight,D6 O9m O9m _ _ _ _ c,sumN_cut,R1 ?a8 ?u,?a4E H' ?e8,DecidableEq,?a47 r,Im i R t,?aS e l k,?a3G ?i8 ?z,?bZ n n β B,?r R i ?d ?dZ,?a5D i G,tl _ ?i,?C R p j a b c d,(?J O9m),h.good.restB,V7 n w T ?o7,∀a∈?RY,?vY,?a5U R u,.(by rw[Int.neg_fmod_neg];omega),Good.add,?a4F V r,h.good.eqv n ?i,?j5 j _ e,?a0 (?bF),RL ?c1 e,λa=>a=nm,?y7 i hi hn,λb ob z=>?a4K z,?sL j h1 O9m,i<=a/\a<n,vs.any ?yV,.(by rw[HT.sIx_nat];omega),#[hz,hTI,#[u,v,hTO],h1,h2],I.turnedN,gY xs H Q,.(by rw[Ak (qC c _ q)];exact q),if ?k6 then Gv ?s1 ?d else ?VV,#[dx,fs,e _ _ h1,h2],tup_cell,(?lJ).natAbs,h.s0.zero,B5 ?kF q v,?a71 t ?bE,Af5 n W i t s I,Paired.length,?tD->?tD->Int,bootBuiltins,.(by ext a1G),q*(y2*y2),?m (?pT),λτ2 H2=>tc τ2 H2 λb H3=>if b=true then te τ2 H3 ?S7 else Pv ?g zs τ2 H3,hk1 _ _ ho1,k<m->x k=0,i=kvs.length,Dl w r R t,(qe6 hi),Rep.same,lE n w A,"dict.pop",if i=j then e else 0,Lat.Straight,?l (?C6) m,qh5 _ ?c,?a4 hr ?AC,?zK k u=true,?eC f i j x y,(?H1 h2),Ju f z hne,upd H a ?c9 b,D6 e1 e2,2 ^ (c+η),(?H1 h1),?c1 b _ e,prs[i]?=?e p,?a4S V V->?jZ,PySem.F.entry_dict_get,?l ?rF i,∃t,u=?FG i t,.bl (! ?OP),?a7K ?lA,qc0 _ ?c2,B5 A p ?bA,yC x y H Q,?l ?mD r,Ed n w m E A P PB Q QB f,e' j _ ?c (?AG),.(by simp[atKey,qk7,e']),λp hp=>?_,.(λb u q n=>by rw[Ak (ne b u q n)];exact q),#[bs,b1,b2],Nat->(?v)->?lM,?dI m=none,#[b1,b2],hst.s0.low,i<n->?V5,∀j,j<r->0<?l6,?a72 ?d c,Heap.IsTuple,Aj (λj=>(Aj (λd=>?z9) r-(?HM))*?fF) r,0<=?fL/\?fL<?gT,x.natAbs*?hO,IsRangeIter,?mE k hlt,Af7 i t R,A.units+1<cLine,λj _ h=>O9m,?a48 k1 ?pF,ts.length=kvs.length,Aj (λk=>f k+-1*g k) n,(?cK,?hW a ?a9),?a6A b',Builtin.Dict.dictSlotArgs,X.A.units+1<cLine,λx H' y=>?_,?a5L T,#[a1,a2],(h a z).elim,ly.keep s,D i p hi hp,I.turned,(?hK).natAbs,?a59 e,?j8 ?dC ?kZ,Int.natAbs,p*f x-q*f i,?a6U (R i) (B j),wpAny_updateSeq_pair,Ap8 j hj e,I1.tuple,?a6A r',.(by rw[h.a.e1,h.a.e2];grind),x a u n1 n2 e,Same H H1,Fn w n (?B n S ?m0) SB,(RV ?i),i<=a/\a<i+d,(?n y u),KT × Value,λr c hr=>?FY,((?C7) c),(r-k)*?hN,λj c hj hcw hne=>?_,λr c hr hc=>qb7 ?iB (qf6 ?aE hb),(as.set i D1).set j D2,?eA=none,?l ?fA m,λc=>- ?cA,Aj (λk=>T c k*X k i) r,SV R vs H1,R0 j ?K,oF n w A Q R,t1 j ?c,k r c hr,(?dR ?HL),atKey xs k,(f k).natAbs,?a3B H ?s8,(x2*r1)*(-x1*r2),LK xs H Q,insAt_get,∀l,l<i->G ?b9,qm2 pk d2,e.key=?n k t,Builtin.Range.rangeSize,[z,TI,TO,i1,i2],(?eK t==Value.none)=true,?a75 ?bE ?BD,Aj (λk=>B k a*R k b) n,?a4R ?cV B,.(λc _=>by ext cJ;rw[?hC]),Pv 0 [] τ H,?a3L m ?a1,Key × Value,c*R p k+d*R q k,ms.length-i1,∀k,k<j->v ?a1=0,{ cls:=?b8 "tuple_iterator",data:=?gL #v[?bG,?z7] },(f j).natAbs,h'.DictOf,Nat->?tE,λσ2 H2=>tb { D with nx:=?lK,ct:=?lK,bk:=D.nx } σ2 H2,?tS->?i1,(?k1).length<=sizeLine,∀j,j<i->?lL,g.typeIs,?a4L G,λc hcw hne=>?_,I.nodupK,(y kvs q),b1.mono ?sV,(zt3 ?a3 a b).objs.size,?aT h TI (?h i1) (?h i2),?NH j hj,λj c h1 h2 h3=>?_,qj1 O9m O9m,(?cQ).natAbs,k*R q ?b9,PySem.F.args_dict_pop_3 _ _ _,?a2Z q,.Subscript o i pos',zt3 h a b,Rl P w H h,∃r,?bC/\?a6O n,LX H CL R r2 b2 ?Y w w r ?lR,(?p5 hi).1,?a2Y ?pN ?eE,R' j c=?eU,{ cls:=?b8 ?hH,data:=.dict #v[] },λc=>1*P i c+1*P j c,Nat->?KY,?aT h' ?Z x y,?a7B p ?aP,(?a3A t).objs.size,wpAny_Call_method,I.tuple_inj,bb.1 r x hr hx,?n7<=big,"dict_itemiterator",.bl (?OP),?VY i _ ?i,r.repl k ry,h.2 b hb O9m,r≠spot,wpAny_newObj_type ?_ (by size_fits),?mJ j h1 h2,zt2 h a b,.(by unfold Gv;rw[Bn];omega),(apos.endLine==cpos.line)=true,key r t IU hst hz,(∃o,?mF e=?O/\o.cls=?b8 ?zH)->E (?h e) ?lI,?Q t i ?s (?AU) ?b2,Lat.insT,Nat->?D0,(qm9 ?_),Lat.ChainTo,j.natAbs<L9,b1.same e,h.2.2 r c hr hc,∀i c,?cB->?OX,D.s0.pos,qn1 _ gn,(?n0).natAbs,Nj (u k) k,hz c ?c,Fin k f l r,?bD ms j,?a3L m ?gI,F.entry_zip_next,#[g1,_,g3],(Ht ms k),(?D3 ?f6).is,lM R x H1,(?rY ?C9).objs.size,i.natAbs<L9,(?N9,?bQ p.2),λr c hr=>?Z1,I.base.frzs,a1.same e,λkv=>(kV ?aJ,kv.2),PE X o td,Nat.two_pow_pos,(?PC).natAbs,(?qP:Key),Int.le_refl,(x / h).natAbs,hk1 _ _ hoD,∃q,?mF a=?e q,c3 r t IU hst hz,?f (?P7),?lF j hj,h.s0.pos,#[j,h1,h2,rfl],(←?PQ self),r1.fmod r2,R1 l ?u,?cY<=?jY,(β+?aW),?C R j q a b c d,?HN n w M',(zt1 ?a3 a).objs.size,q*(x2*x2),PySem.F.entry_dict_pop,?a4K (?f3),iT ?c1 eb,?a75 d ?eR,λk=>?KS,if ?k6 then MJ ?d (?UT) else ?UT,∃t,u=Value.str x t,items[i],e.val=?n v t',D j i hj hi,D.TOz.symm,λi c a b d=>?tA i c b (by have:=h2 i a b;omega),oK.start,Y k d f l r,λc _=>?M9,ms.findIdx?,.(by rw[Hd,Hd]),2 ^ (2*π),λk j h1 h2 h3=>?_,2 ^ (π+b),#[o,q1,q2],y1.natAbs<=A.natAbs,(?mX).natAbs,?m7 l _ ?c,Ec π b i,w8.extBut,h _ _ (I.tok _) ?_,Ot es.toList ms,h1.trans,(self,other),(?S0).natAbs,ms.length-i,c<w->?g2=0,sameC ms ns,e0.step (?aG),#[kv',e1,e2],?a46 d s,(?n x t),IsD H1 a,?dP b ys,(?a4Q ?mT).congr,i<n->?OO,{ s with heap:=h1 },Shared.heap,PySem.F.slot_dict_items,ChainTo m i f,.(by rw[←hz2];exact qh0 _ _),∀i c,i<n->r<=c->?OO,∀j,j<i->(B j a).natAbs<=2 ^ j*m,?iK c hc,LG n w k T,λz=>e (?OK z),?y Keyword,?O7 (?g0),D6 e e2 a b c d k,Unit->?i1,?l ?kN k,#[h1,h2,h3],"starts",show ?a2M i p from ?aU,λ_=>?fS,?a4R R B,backTo ?fP (?n6 ?qY ?a9),#[e1,e2,e3],?dK->T i j=0,h.objs.size,B q x*R q y,show(-0:Int)=0 from rfl,∀ob u,X.H₀ a≠?e (.frz ob u),i*(?gU+1),Builtin.Dict.addrOf,Gq ne a b c d k,c1.2.2.2.1,k5.IsTupleIter,#[kvs,kvs[i].1,kvs[i].2,q,?vL],items[i]?,its.toArray.size,i<kvs.length,B p x*R p y,?kQ/\?f2/\∃vs,?hR/\h.DictOf ?f6 a vs,s2.keep h1.flip,h3 r t IU hst hz,i<its.length,Aj (λc=>y c*?xP) w,#[x,λ_=>hx],?ST->?mF c=?O,D.i1z.symm,∃xs,?TG/\h.DictOfH (?D3 ?f6) a xs,its.toArray[i]?,(f i).natAbs,λhr=>?_,qy3 c β,B j a*?aD,let #[q,_,_,hq,_]:=OJ;#[q,hq],?c1 a _ e,g x σ H' λσ2 H2=>tb { D with nx:=N,ct:=N,bk:=D.nx } σ2 H2,?a2G β ?aP,Q (?h tp) H',?a47 b,(B i x).natAbs,tr R x c,?a4R (?B w R ?l1) RB,y.natAbs*?hO,xs[n]?=none,?VY i c ?i,Ow n W w i R1 B1 t1 0 R2 B2,W i m σ H,#[hz,hTI,#[u0,v0,hTO],h1,h2],a≠r/\a≠b/\¬N a,∀j c,j<i->?DE,λc=>?C8,?Y7<=?i9,λh' OJ hs=>h _ ?_,ItDGet2 ty tx σ Q x H1,?a2Z hne,R' r c=?bU,Int.mul_neg_of_pos_of_neg,.(by unfold insT;ext u1),Int.ediv_nonneg,#[f0,f1,f2,f3,f4,f5],#[?aM,?aM,?hD,?qA,λi j _ hj=>O9m],?a71 ?bR ?g,?y (?JS),?a7L (?w5),{ s1 with heap:=?rY ?C9 },aW mX hs,#[r0,r1],#[q1,q2,q3,q4],Nat->?aO,richCompare_meets_room,ZipApart,SR K R vs H1,∀r c,?gV->?QZ,#[i-1,O9m],λ_ _ e=>e,.(by simp[e]),?a4K (?NT),λb o e=>?k8,h'.objs.size=?sO,Hq W u st,(2*a).log2,?a2Z e2,(?yZ).length,Mv kvs p.1 p.2,Nat.mul_comm,0<=?g2/\?g2<=e,Int.dvd_add,?l (λk=>f ?bP) n,Array.getElem?_eq_getElem,?F i O9m,?iR s ci (as.eraseIdx i),(?fX).natAbs,Kz R ?bR i k,∀c,c<w->u c=v c,.(by rw[qg0];omega),Int.lt_or_gt_of_ne,Ju f e1 e2,∀i c,?cB->i<n->?T7,?a3D 5,λy H4=>H4 D=?a35 zs/\zs.length<sizeLine/\Pv ?g ?SP τ2 (upd H4 D (?S ?SP)),#[_,e,_],(b4 a ha).2.2,pT n B R a ?K,(keyPart u).isSome=true,.(λb u q n z=>by rw[z,e]at q;exact n (qb9 q).symm),?aX j c hj hc,hx j ?c,ih ?c ?c,?a4F (?qV) m,entryFor,putF "backs" b (putF "rows" r []),(x,y)::ps,?a3W EuR r2,∀j,j<n->?aD<=D,a*R p k+b*R q k,.(show n+1-1-k=n-k by omega),if x=y then f x else 0,(zs++[y]),g3 q u hqw y7 QW,∀m,m<d->?a7O s m=s,H a≠none,?n4 c=?O,.(by simpa using q1),fdiv_small,O5 (p::r) k,#[z,hd,xs,rel,dd],Q (?h L) H',?a0 (q.1≠k)=true,h.step h2,?a2G β s,.(by simp at e),#[q,u,hqw,y7,QW],if ?k6 then Gv (?yQ) ?d else ?yQ,(j4▸hj),(?cK,?hW c ?a9),c<w->?iQ,(a*x+k*y).natAbs,A.natAbs<L9,.(by simp at hl),?a2K ?b5 (pyNext ?iX),?r R p q k,?xY&&?a3E ns,(R p ?u).natAbs<=μ*?eF,?a3B H s,KT H kvs xs,if p<i then p else p-1,?aX j c h1 h2 h3,hp k O9m,?C R p q a b c d,st.pos j hj,?a7M H f,Int.mul_neg_of_neg_of_pos,?iR k y xs,(hs c hc),(←isInstance other ?pA),(M r c).natAbs<=?xR,h.st.st.red,LX H CS p r b (?e (?h q)) n W s M,2 ^ 9000,#[a,kvs,rfl,e,q],?a5N h h,#[kvs,q,?j7],?l ?fA ?bE,?aS e j c,#[h1,λj k a b=>?kM j k a O9m,λj c a b=>?tA j c O9m b,λj a=>?a50 ?lF,λk j a b=>?t8 k j a O9m],?a44 a (.dK (?yZ)),λc=>?MT,qf3 _ r1p,?fC+?DB*?D,?r R j q k,(?h ?vU),#[a,b,c],pD n w R B i j,?a6E bd,k3 c hcw,compareOp,?c5 l _ ?c h2,(qc9 ?l5),.(by simp[valueAt,qk7,e']),Dl w r T t,c j h1 O9m,.(λx=>by rw[h.rows,?o]),qi8 ?eI (y7.ge k kq2),#[O9m,O9m,?w rfl,λd h1 h2=>?g1],∀spot,?cO->Ds n W w i G R B t π b ?d R B,#[p,k,v,hp,rfl,rfl,y],(zt2 ?a3 a b).objs.size,(p dx:Addr),if c<w then T a c else 0,?a7G ?g,?a3O G M,R ?d ?u,?a50 ht,moveS i ?d ?aP,B.natAbs<L9,?cR ?_ ih,?a72 ?d st,[?bG,u,r],D.TOi2.symm,.(by simp[hl]),yE x y H Q,s _ _ hp,(?G rfl),.(by simp[O5,qk7,e]),OF n w r L m T,c<w->T' i c=0,?iY i _ (qa1 hi),x1.natAbs<=B.natAbs,ob.slots,?a4K (?RK),Int.mul_fdiv_add_fmod,y2*r1+-y1*r2,?H3 j c hj hc,?lX*v c+?D*?BW,?oT i1 t1 ?T,.(by rw[Ak (qC b _ z)];exact z),Aj (λk=>X l k*U k i) ?t6,.(by simp<;>omega),Em n w T R,Int.natAbs_mul_self,h _ _ ?bM O9m,λk=>?SM,SqT K H a xs,Ds n W w i G R0 B0 t π b ?d s.1 s.2,LJ xs H Q,kvs++more,Ox r ?kA T E,R ?d ?mM,h1.DictOf,?J (R:=Gv R j) hj,(?UR).natAbs,?P R i ?d,?l (λl=>f (k+1+l)) ?iV,?a36 cnt s',h.st.good.rest,?F n ?i,attributeBase,#[o,ho,r],(?a2Z hj),?a4F (?qV) i,∀i,i<r->?a5C e,?xE ?f5 ?hH,IsItemIter,λa=>f ?bB,hM a _ ha (?xV),π<=8990,hx k hkn,qb7 (h r x hr hx) (?t9),?dP a xs,y7.pos k kq2,?a2T p q,run d O9m,.(λc _=>by rw[Bx ne,Bn,Bn]),λl=>?hT,?hW o ?a9,(?p5 e').1,∀j,j<r->u j=j,kvs++[p],λi=>(?tL).getD ?cK,x2.natAbs<=B.natAbs/\y2.natAbs<=A.natAbs,?n4 b=?sN,?a7A (Ge A i),Paired.snoc,λc=>?ZK,?eG (j:=?k9) (l:=l) ?c ?c,?a2G (?D6) (?jA),s1.heap.IsTuple,?T*DI n,#[kq,hu],Nl n w k Nj,Value.bool,#[p1,p2],(?aS e j),Int.lt_trichotomy,Aj (?r8) ?kX,Int.neg_dvd.mpr,.(by ext a17),Heap.SameBut,h.s.same,In w r R v,λc=>?XT,?a48 h' (?z5 ?Z),?a0 (p.1≠k)=true,qf4 (a*x) (k*y),#[c,hc,h0],Int.mul_le_mul,?a2P ?jD r,?hF k j h1 h2 h3,?c5 j c O9m hji,?l f' l,IsDPut D σ v x y H3,oF n w A Q M,wpAny_letGo,wpAny_typeOf,(?K9).isSome,?a4B w,e.natAbs.log2<=L,∀l,l<k->T k ?u=0,λa ha=>?_,(?zE).natAbs,(?zA).2.2,1*?cQ+k*R q c,hx k ?c,#[P,inc,hG],Lat.Bits,LG n w k Nj,?aT h' b x y,#[(λx=>nomatch x),h],?a44 ?Z (?bS [kV k,v]),(?gK).natAbs,?a3Y 1,zero j c hj hc,(z▸x.mq),(min n w),Ow n W w i R B t (?pN) (?eR).1 (?eR).2,(?iC).natAbs,Q1 c η r e,Nat->?lM,λb u q=>?_,ys[i]?=?pS,b≠s.heap.objs.size,k.natAbs<?A,T8 H ?lR a,DI n*B ^ n,?a4E H ?Y,#[1,by rw[z];omega],?a3B H' s',#[ha,hb,h],e.hash=hashInt k,?r B ?d i q,X.A.units+n<cLine,skip_prod,hx c ?c,?e5 j c ?c,?I->?lM,?y Bool,?a5B H' N,ql2 O9m m0,D q j hq hj,.(by rw[qd7]),hst.only,?c5 ?d _ ?i hs,∀a∈as,∀o,H a=?O->H' a=?O,λd _=>?_,λi j hi hj hne=>?_,Dd O9m c,?cL h z TI TO ?aV,h.move hi hs,λc=>?zJ,D6 h1 h2,X.A.handled=none,?t3 A B g a b,w7.extBut,D.TOi1.symm,L7 kvs [],λxs _ i=>xs.length<=i,(y2*r1)*(-y1*r2),h i j hi hj,?a2V cnt s,{ s with heap:=?rL },#[q1,q2],∀m,?iP->∃r,r<=m/\?a6O m,Bool->?i1,(?J hq),R ?gF ?gI,∀j,j<r->?a5U T ?X0,hnew.typeIs,?a7F T (P x),Q1 c η r d,?yU (q::qs) k,#[kvs.length-?g,O9m,rfl,hlt,p'],#[O9m,?_],Im ?g R t,.(by apply ?a31 ?AF ?_;show ?a2H (?oB ?iX 3>>=_) _;apply ?a31 ?bG ?_;apply ?a49 ga;show ?a2H (Builtin.SmallTypes.ownedTupleIsFree ?iX>>=_) _;apply ?lC;unfold Builtin.SmallTypes.ownedTupleIsFree;apply ?a31 ?aV ?l5;simp only[if_true];apply ?a4J qx5 ?_;apply ?a31 ?d8 ?_;apply qa7 (qj2 gz ?cU λk1 gz1 w1=>?_)),.(by unfold Builtin.Dict.dictSlotArgs;apply ?a4J qa7 (qw8 ?CR ?_);apply qa7 ?l5;apply ?lO;apply qa7 (qv9 (T:=?hH) (b:=true) ?z0 isSubtype_dict_dict ?_);rw[?w8];apply ?a4J qc9 (qa7 (qc9 (qa7 (Tq ha hb ?_))))),.(by apply ?lC;simp only[List.zipIdx_cons,List.zipIdx_nil,List.forIn_cons,List.forIn_nil];apply ?a4J qa7 (wpAny_onRaise ?_);show ?a2H (?B1 (?h i1)>>=_) _),.(by intro i s acc hn hi hz hd hit hb k;apply codeAny_builtin Wq ?_;rw[Around.under_plainId Le];have hLs:s.heap.IsList l items:=let ?W1:=hL;#[o,hb _ _ nld nli ho,r]),.(by let ?RA:=H.part.red ?d l ?aL h1 h2;rw[←?YX,←?UC]at r1;rw[←?YX]at r0;have p:=?W l h2),∀{K:W.Frag}{a b:Addr}{xs ys:?eJ}{n:Nat}(hn:xs.length=n/\ys.length=n)(Pv:?EP)(h0:?KP)(hl:∀i zs τ H,i<=n->?hE->?VM/\SqT K H b ys),a,.(by let#[x,H1,I1,rx,a,ex,d,q1]:=_z;subst ex;obtain rfl:u=?eK a:=rx;let#[t1,t2,_]:=QV I1 d;apply#[t1,t2,?_];rw[m.trees]),.(by exact(?c1 b u q).stay (λ_ _ _ q=>q) (λc q=>?oM) ?zS),∀(hs:?cO)(h0:∀c,c<st->?iQ)(h1:R i st≠0)(hW:st<W)(hG:G st)(hpg:?zX)(hex:?qH),a,.(by show(?NX).1=_),.(by show(?NX).2=_),∀{A:Around}{s:Shared}{a b:Addr}{ms ns:?dL}(ha:?hQ)(hb:?rP)(hu:A.units<cLine),a,.(by have z:?a55 q:=λw=>Ff hp hq ne ?WG),.(by show ?iZ*?xN+?s2*R ?gF ?u=0),.(by intro Ae s σ H x y v u Q I rx ry h;let#[a,b,ms,ns,rfl,rfl,ha,hb,q]:=h;cases rx;cases ry),.(by apply#[?lB,λb q=>?_,hd];cases q;let#[ob,_,_,h1,h2,_]:=dd;exact#[ob,h1,h2.2.1]),.(by have e:=jN (w:=w) (n:=n) (f:=f) (g:=?W7) (h:=f) (?e7) (?e7)),.(by have zb:?jC+?s*?hJ=(?rG)+π+1:=?S2),.(by let(?a38 hrep):=x.ob;let#[r1,b1,r2,b2,lx,ly,f]:=x.li),.(by let#[g,hg]:=ihm O9m;exact#[g*T m (t m),by show ?wZ*T m (t m)=_;rw[hg,qe0]]),.(by rw[show ?D5=0 from ?CF l k hl (qb7 z (y7.mono k l ?c hl))];simp),.(by let#[ho,hsys,hl,vs,es',XR,rel,hd',hsz,ex,hm]:=iX I hz;rw[hd]at hd';cases hd'),∀(hr:?bC)(hst:?lH)(hz:?n1)(s2:Em w n (tr T') ?qC),a,∀{x y z u:Int}(hx:x.natAbs<?tF)(hy:y.natAbs<?tF)(hz:z.natAbs<?tF)(hu:u.natAbs<?tF),a,.(by rcases h with h|⟨hB,e1,e2,e3,e4,e5,e6⟩|⟨hB,e1,e2,e3,e4,e5,e6⟩),.(by have e0:EuA A B A 1 0 B 0 1:=?UJ),.(by rw[Ff (p:=j) (q:=k) ?c hk hne ?FE,qc7];rw[Bn,Bx hne]),.(by have e1:=a2 hlt;rw[htk]at e1;have pk:=?qX k hlt;rw[htk]at pk),.(by have hl:?RQ<=sizeLine:=by have:=Pw kvs k v;omega),.(by exact ?w (?G #[o,?TW])),∀{i:Nat}{T V Z:Mat}(h:∀r c,r<i->c<i->?j1=Aj (λj=>T r j*Z j c) (r+1)),a,.(by rw[?gO l k hl (qb7 z (?F3 k l ?c hl))];simp),∀{g:TG}{tb:TS}{D:Ends}{σ:St}{H:Hp}(Pv:?KY)(h0:Pv 0 σ H),a,∀{n w:Nat}{A Q T P:Mat}(h:∀k c,k<n->c<w->?c8=?a2T (P k) ?g7),a,.(by have he:0<?h7:=Cd (?a7K ?tQ)),.(by have he:?ND:=?QD),∀(hc:?P3)(Pz:?ZL),a,.(by exact ?w (?w (?TW))),∀(hM:∀r c,r<n->c<W->?TR)(hD:Ox n (λc=>c<W) M D),a,.(by have d:=H.hd l h2;rw[←?UC]at d;omega),.(by have t1:∀j,j<i->?gR t i ?e1 j=t j:=?a7K ?BP),.(by let#[t,q]:=(show ?I4 from ry);subst q;rfl),.(by let#[t,q]:=(show ?NY from ry);subst q;rfl),.(by rw[←?b1,←?b1,←?b1,←?b1,z u,z v]at e0;omega),.(by let#[ia,ra,pa,_]:=I.tuple GC;let#[ib,rb,pb,_]:=I.tuple MT),.(by rw[?q,?m (by rw[x.1];exact hi)]at ec;cases ec),.(by rw[e0,Xu _ hk,?a4 (j:=k) ?c ?vG]),∀(h:∀l,f<=l->l<m->?TE),a,.(by rw[?dN,Iy];have:R j k=(a*d-b*c)*R j k:=?B7),∀(h:?G4)(ht:?xU){v:?k}(hv:In W i R v),a,.(by rw[?c5 ?d c ?i hs];exact H.rw ?d c hs hc),.(by intro _;exact#[0,?j7,?hD,λj _ hj=>O9m]),.(by have hn:es.size=vs.length:=by rw[hsz,rel.length]),.(by intro hm;let#[r,a,b,c]:=?cX;by_cases z:t m<w),.(by rw[?rW,?rW]),.(by rw[←qe8,←qe8];exact ?D4),.(by unfold insS;by_cases z:?k6),∀(hst:?UF)(hz:?ML),a,.(by apply qi8 a (qh7 λy=>?_);have:=c r ?i y),.(by rw[Ak (Fh h hn ?aC)];exact h),∀(h1:D<=?H)(h2:?x1)(h3:b0<=π)(h4:b0<=b),a,.(by exact I2.fpOk ?i (I2.hok.fresh ?i)),.(by have d1:?cT∣ ?aB:=#[x k,by rw[e1,qf1]]),.(by have ht:?xE ?iX ?h8:=#[_,gz,rfl]),.(by have:=?iI j ?d ?aL O9m hs;omega),.(by rw[Ak (λz=>by rw[z,e]at n;cases n)];exact n),∀(G:?aI)(M B0:Mat)(kt:?v)(hd:?k),a,.(by show _=?wP*?aB*_;rw[qe0]),.(by show ?a2H (?oB ?iX 2>>=_) _),.(by show ?a2H (pyNext ?nA>>=_) s),∀(h:Sz n w r E L m e A T P PB Q QB kl kr hl hr),a,∀{w n:Nat}{R:Mat}{u v:?k}(hu:?GG),a,∀(f3:?a4G H0 r2)(f4:?a4G H0 b2),a,∀(hp:p<lo)(hm:m<=lo)(hn:?nY)(hpf:p<f\/m<=p),a,∀(ho:?N6)(he:PE X e ty)(hf:PE X f tx),a,∀{i j:Int}(hi:?N0)(hj:?MI),a,∀{r b:Addr}{H H':Hp}{o:HO}(x:?r7),a,∀{g a b:Int}(S:?t3 ?mW ?lS g a b),a,∀(hp:p<lo)(hq:q<lo)(hn:?nY)(ne:?f4),a,∀(gx:xs[n]?=?iT) (gy:ys[m]?=?pS),a,∀(h:?a5D i (λc=>c<W)),a,∀(ts:?gS) (kvs:?c7),a,∀(h:?UQ),a,∀(he:R i ?mM=q*?VR),a,∀{a:Addr}{xs:?eJ}(h:?VM),a,∀{p:κ × V}{r:?iH}{k:κ},a,∀(R:It->?jZ)(vs:?eJ)(H1:Hp),a,∀(h4:b0<=b)(hβ:b<β)(hβ2:n+b0<β),a,∀(hd:?a6G n),a,∀{es:?eH}{x1:Nat}{tpos:Pos},a,∀(e:H a=?qI),a,∀{n w m E:Nat}{A P PB Q QB:Mat},a,∀(H:?xT),a,∀(h:?a3W EuI r2),a,∀(h:?SK),a,@(BB n W C δ ?a ?b),@(?p _ _ ?a _ _ ?b),@(?a λi c h1 h2 h3=>?b i c h1 h2 h3),@(E4 X (?dR "any") (λxs H Q=>∃(p:Addr) (bs:?YR),?xD/\SqL ?a H p (bs.map V.bl)/\Q (.bl (bs.any id)) H)),@(?p ?a A ?b Q E s),@(show ?a≠?b by omega),@((if ?a=?b then ?cN else 0)=0),@(det n (B5 A p ?a)),@(WX K CL CW H0 ?a p L R nm n w ?b l r ns),@(Aj (λk=>x k*?a) ?b),@(?a (if l<k then l else l+1)),@(fr _ _ (λz=>?a ?oZ) (λz=>?b ?rJ) e),@(∀l,?e3->l<i->(?C R ?d i x y z u ?a ?u).natAbs<=?b4*(?C R ?d i x y z u l ?u).natAbs),@(bil n w A ?a ?b),@(?aZ n W w lo R B ?a ?b),@(SX CS H0 H p q M n W t ?a ?b),@((∀σ' H',N σ' H'->∃m',m'<m/\W ?g m' σ' H')/\∀x H',(?a).yld i H x H'->?QF),@(qa7 (?F1 (?AP (name:=?wE) ht qx4 (qn2 qx4 ht ?MU ?a (F.args_zip_next_1 _))))),@(show ?a=?b by omega),@(λz=>?a ?aK),@(∀(i:Nat) t,?rM->∃kv:?pR,kvs[i]?=?e kv/\H ?a=?e (?bS [kV ?aJ,kv.2])),@(qa7 (qi9 gz rfl (x:=?a) rfl ?b)),@(Rep K ?a v (dT n w ?b)),@(?LW m.base m.few m.line qt8 ?a ?b (D9 (ho Ae s σ H _ I h) λu s1 _z=>?_)),@(qq6 (D9 (hf Ae s2 σ H2 _ I2 q2) λfv s3 ?a=>Calls.spliced_nil ?_)),@(?e (?S ?a)),@(SX CS H0 H' p q M n W t ?a ?b),@(H p=?e (?bO ?a dx ?b)),@(#[tv,dx,fs,hp,l1,l2,l3,l4,l5,l6,l7,?a]),@(λkv=>if ?n5 then ?a else kv),@(?rY { cls:=?b8 ?m2,data:=?gL #v[?n ?fC ?a,?n ?D t',?n ?D t''] }),@(Bm X Ae σ ?a ?b),@(Q6 n ?a w r kt hd ?b),@(s.heap.objs.size+?a),@(ms.all λp=>?a0 (?bD ?a p.1=?iE)),@(?dI (?a:Str)=?e ?b),@((?a).natAbs<=?b),@(?a (I.idict ha) (I.idict hb) O9m ?mI X.w X.xe _ #[?b,H,I,rfl,q]),@(Meets (?a ?nZ) (λA R s=>?hQ/\?rP/\R (.ok (.ret (?jE ?b))) s)),@(A (if r<?a then r else r+1) ?aW),@(λm hm=>?a R O9m O9m ne ?b),@(Rh R t k ?a ?b),@(Ds n W w i G R0 B0 t π b ?s ?a ?b),@(?a Ae s1 σ H1 _ I1 q1),@(Ce n W w r i ?a ?b B0 kt hd t R B),@((det i ?a).natAbs<=?b),@(#[ha,hb,show ?WY ?a≠Value.notImplemented/\_ from ?XZ]),@(rv.get (i:=i) (x:=?a (?b[i]'(O9m))) (by rw[qb4,hb];rfl)),@(B5 (B5 R j (?a ?a2)) ?a2 ?i3),@(?a A B r2 x2 y2 (?mO) (x1-?dA*x2) (y1-?dA*y2)/\?AZ),@(Aj (λl=>(T l ?cP*?h9)*(if d=l then 1 else 0)) ?a),@(?a*(?g*(i+1+?b+2))),@(?a A B r1 x1 y1 ?b x2 y2),@(show ?a<i+1 by omega),@(s1.heap.objs.size+?a),@(Q6 w ?gM n r kr hr (?B n ?a ?b)),@(LX ?a CL R r2 b2 ?e8 w w ?b ?lR),@((if r<?a then r else r+1)=p),@(by rw[show ?a=(?b-2)+2 by ext jP,qe8];simp;try omega),@(λd hd=>(?a d hd).mono ?sV),@(upd H ?a ?b),@(PE X (?m4 (?yW o ?a apos) ?qY [] ?fP) (?b td ty tx)),@(Oj n i β c t R B ?a ?b),@(H0 ?a=none),@(?cL ?a z a b ?b),@(qa7 (qn8 ?a rfl ?_)),@(WX K CL CW H0 H p L R nm n w ?Y ?a r (Ie m f)),@(Aj (λk=>(if k<r then X k i else 0)*T c k) ?a),@(?a<s.heap.objs.size),@(λσ' H'=>?lZ/\?a σ' ?l7),@(LX ?a CL L r1 b1 ?b n n l ?sJ),@(?l (λj=>?a j j) ?b),@(?a ?b=Option.none),@(∀x c,x<w->c<n->?QK=bil w n ?p7 (?a x) ?JU),@(λk c hk hc=>?a k c hk (by rw[?b k hk];exact hc)),@(qa7 (?a ?b)),@(qa6 _ ?a),@(Js n W w i ?a R B t π b),@(?iI ?a (k-1) ?aL O9m O9m),@(?XD (show A+1<=-(?aG) by omega) ?a O9m O9m),@((∃c d,?aT h TO c d)/\?mR i1 a ?a/\?mR i2 b ?b),@(ret (?jE ((←?BX s!"dict.{?a}" ?NJ ?EY)==?b))),@(?J (R:=?a) hj),@(Fn n w ?a ?b),@(?y (?a × ?b)),@(?CF c k ?a (by have:=y7.inc k c O9m ?b;omega)),@(Fb ?a u v 1 1 ?b),@(?gO i ?a e3 (by have:=?t5 ?b i O9m e3;omega)),@(.Tuple ?a x1 tpos),@(∀k c,k<n->c<w->?a=?b k c),@(ql4.mpr (?pC (qe3 ?a))),@(by rw[qe8];exact qq7 ?a ?b),@(?a j O9m),@(λa u n1 n2 e=>by rw[Ak ?a];exact ?JM),@(show ?a<=?b by omega),@(Ds n W w i G R0 B0 t π b ?s (?a).1 (?b).2),@(AH n W w i G R B t b p ?d μ ?a R' B'),@(∀w:?k,det n (B5 (B5 A p w) ?a w)=0),@(∀j k,j<k->k<?a->?q0),@(λj=>T' j ?a),@(λa o e=>fr _ _ (At e ?a) (At e ?b) (?v6)),@(qe3 (qc1 ?a)),@(OL W n R ?a),@(LX ?a C p r b sv n W s ?b),@(In n w ?dM (?aS ?a i)),@(Dv n W w ?a ?b M B0 t R B),@(?gQ P w H h a ?a),@(?C R p q a b c d ?a k),@(?a l O9m h2),@(Ce n W w r ?g G M B0 kt hd ?a R2 B2),@((?a O9m).cols (λk c _ hc=>?q6) ?yH),@(?a (λp=>if ?bF then(p.1,v) else p)),@(∀c,c<n->?cA=A ?a c),@(λr l=>?a r ?b9),@(λr c hr=>(?a r c hr).trans (?b r c hr)),@(sx _ _ (Fh ?a hp ?aC) ?b),@(show 0<=-?a by omega),@(qa7 (?a hoa hda ?b)),@(by rw[Ak ?a];exact e),@(by have:=?VA ?a ?b;rw[qf1]at this;omega),@(Rep K H' (?h ?a) ?b),@(Lat.insS ?a ?d st s'),@(In w n ?a ?b),@(?a R p q a b c d ?b),@((Rd H b (.dK (cK ns)))->(Q (?a) H)->?b),@(by rw[m,qc6,←qc6 ?a];exact ?CZ),@(LX H' CS p ?a ?b (?e (?h q)) n W s' M),@(?bZ n W ?a ?b),@(show X.A.in1.handled=?a from hh),@(pT n ?a ?b a b=?p8),@(by have:=?t5 k ?a hl1 hl2;omega),@(_*(if m<w then T m m else 0)=?a),@(T i d*(if c=d then e else 0)=?a),@(λc hc=>?a i c hi hc),@(show ?a ?b ?z2 from pa),@(show ?a ?b ?wN from pb),@(Qf ?a g ?b te D Q τ H),@(PySem.F.args_dict_get_3 _ _ ?a),@(H ?a=none),@(?aZ n W w ?a ?b B0 R B),@(?R λl hl=>by rw[?a l ?c];simp),@(?R λk hk=>by rw[x0 k ?a];simp),@(?a r c hr hc),@(?a j c O9m hcw hne),@(∀zs τ H,Pv ?a zs τ H->Q H),@(λσ H R=>ta σ H λvs H1=>?a),@(rule s!"dict.{?a}.not-a-dict"),@(qc9 #[plainId_quiet Le ?a,?_]),@(qa5 (Nat.log2_self_le O9m) ?a),@(T k ?cP*?a*(if d=k then ?b else 0)),@(Fb (B5 A q ?a) ?bA ?dG a b hp),@((if r<?a then ?j0 else ?j9)=_),@((?yN)/\∀j,?aN->j<?a->w<=t j),@(#[rfl,?GW (t':=s.toks) (fp:=?a) ?b hf]),@(?a ?b c O9m hc),@(λm hm=>(?a m hm).trans (?b m hm)),@(λm hm=>?a ?b O9m),@(show ?a=(ms.length-?b)+1 by omega),@(dot n w ?a ?b),@(det i (fV V Z ?a)),@(by rw[←l];exact rel.val ?a),@(TX i j g a b f ?a),@(SqT K H' L [?n g,?n a,?n ?a]),@(Ce n ?a w r n G ?b B0 kt hd t R B),@(?r ?n8 j i ?t2 ?a),@(?cS ?a i ?aP ?b),@(?P R i ?d ?a ?b),@(?a t #v[key,p.2]/\?b p.1 key=true),@(∀d,?m6->?a2G ?kE (?Q t ?a ?s ?b d)),@(BB n W C δ (β+?a3V ?a Y) (?b)),@(∀j,j<i->?a3G ?a ?b),@(?C B p q d (-c) (-b) ?a),@(∀a b ms ns,?sC->(?qS)->(?tI)->?a5W ?a ?b),@(Builtin.«zip.__next__» #[[?h ?a],[]]),@(det n ?a),@(?Q t ?a ?s ?b ?b2),@(λj hj=>?a50 ?a),@(?f (?a2Z ?a)),@(?a (t':=s1.toks) ?b),@(∀x c,x<n->c<w->?a x c=?a2T ?b ?g7),@(?cS ?aY i (?jA) ?a),@(?a Ae s σ H _ I h),@(H' ?a=?a35 ?b),@(∀p,?dF->Q ?eO (?a44 p ?a)),@(λj hj=>?a),@(det i ?a),@(TA ?a r as n W ?b),@(?a7A ?a=- ?a7A (B5 (B5 A p v) ?b u)),@(?Q t ?a8 ?dQ ?a ?b)])
def Pt{j t:Addr}{n:Nat}{vs:?hI}[?dT][?EG](g:?BG j t n)(gt:?dP t vs)(gx:vs[n]?=none)
 (k:∀h' e,Heap.ExtBut j ?a3 h'->?MC):?a2K ?b5 (?B1 ?B4):=by
 let#[o,q1,q2,q3]:=id g;let#[p,p1,_,m,p2]:=gt;unfold Builtin.SmallTypes.nextOf;apply qa7 (?AP (name:=?wE) ?L3 qo8 (qn2 qo8 ?L3 F.entry_tuple_iterator_next ?_ (F.args_tuple_iterator_next_1 _)));show ?a2H (?oB ?B4 0>>=_) s;apply qa7 (qi9 q1 q3 (x:=?mV) rfl ?_);show ?a2H (if ?KK then _ else _) s;rw[?f (show ¬(?KK) from qe5)];show ?a2H (?oB ?B4 1>>=_) s;apply qa7 (qi9 q1 q3 (x:=?n n 0) rfl ?_);show ?a2H (seqItems? (?mV)>>=_) s;apply qa7 (qn8 p1 p2 ?_);simp only[qd6,gx];apply ?a4J qx5 (qa7 (wpAny_setField q1 q3 ?cU ?_));show ?a2H (newExc (?b8 ?zH) []>>=_) _;apply ?lC;simp only[newExc,newTuple];apply qa7 (?M6);apply qa7 (m:=firstArgMember _ _) (wpAny_of_eq (a:=Value.none) (by first | rfl | (simp only[firstArgMember];rfl)) ?_);apply ?M6;simp only[raiseNew];apply ?a4J wpAny_handled ?_
 first | rw[show A.in1.handled=none from hn] | rw[hn]
 apply ?a4J qc9 (wpAny_throw ?_);exact k _ _ (((Heap.SameBut.update ..).extBut.push _).push _) #[_,?f3,rfl]
def LN[?tZ]{x y u v:Value}[?dT][?tT]
 [?tU] [?a20]
 (k:∀h',?X9->?XY->?VE->?FJ->?LT->?RM →
   ?oR->Q (?eT) ?lI) :
 ?p ?b5 A (?a79 z) (λfin s'=>∃r,fin=.done (.ret r)/\Q r s') E s:=by
 ext a1P;ext ZT
 replace gz1:?IX:=gz1
 ext ZV;apply qa7 (Jn (g1.extBut ?d7 D.i1z) (e1.extBut ?d7 D.l1z) gx λk2 f1 w2=>?lO);have gb2:?aT k2 b u v:=?lP _ _ D.TOi1 (?d7 _ _ D.TOz gb);apply ?a49 gb2;apply qa7 (?JH gb2 λk3 gb3 w3=>?_)
 replace gb3:?aT k3 b x v:=gb3
 apply ?a4J ?XK ?l5;apply ?a4J qa7 (wpAny_onRaise ?_);show ?a2H (?B1 (?h i2)>>=_) _;apply qa7 (Jn (((g2.extBut ?d7 D.i2z).extBut ?lP D.i12.symm).extBut ?g9 ?UY) (((e2.extBut ?d7 D.l2z).extBut ?lP D.l2i1).extBut ?g9 D.l2TO) gy λk4 f2 w4=>?lO);have gb4:?aT k4 b x v:=?s0 _ _ D.TOi2 gb3;apply ?a49 gb4;apply qa7 (?JH gb4 λk5 gb5 w5=>?_)
 replace gb5:?aT k5 b x y:=gb5
 apply ?a4J ?XK ?UD;apply ?a49 gb5;apply ?a4J wpAny_newTuple ?_;have sz:k5.objs.size=s.heap.objs.size:=by rw[w5.1,w4.1,w3.1,w2.1,w1.1]
 have gz5:?a48 k5 ?pF:=?oC _ _ ?O2 (?s0 _ _ D.i2z.symm (?g9 _ _ ?O2 (?lP _ _ ?Q6 gz1)));have kp:∀c o,c≠z->c≠b->c≠i1->c≠i2->?ST->k5.get? c=?O:=λc o c1 c2 c3 c4 e=>?oC _ _ c2 (?s0 _ _ c4 (?g9 _ _ c2 (?lP _ _ c3 (?d7 _ _ c1 e))));have f15:?PT i1 t1 ?T:=((f1.extBut ?g9 ?Z9).extBut ?s0 D.i12).extBut ?oC ?Z9;have f25:?PT i2 t2 ?qJ:=f2.extBut ?oC ?UY;have lz:z<k5.objs.size:=qc1 gz5;show ?a2H (Builtin.SmallTypes.ownedTupleHandOut ?iX ?U6>>=_) _;apply ?lC;unfold Builtin.SmallTypes.ownedTupleHandOut;have gz6:?a48 (k5.push { cls:=?oL,data:=?i7 #v[x,y] }) ?pF:=?a4K gz5;apply qa7 (qj2 gz6 ?cU λk7 gz7 w7=>?_)
 replace gz7:?a48 k7 ?FO:=gz7
 apply qj2 gz7 ?cU λk8 gz8 w8=>?_
 replace gz8:?a48 k8 ?FO:=gz8
 have up:∀c o,c≠z->k5.get? c=?O->k8.get? c=?O:=λc o c1 e=>?OH _ _ c1 (?Z8 _ _ c1 (?k8));have gt:?aT k8 ?vU x y:=?OH _ _ ?ER (?Z8 _ _ ?ER (?f3));have s8:k8.objs.size=k5.objs.size+1:=by rw[w8.1,w7.1,qi4]
 rw[sz]at gz8 gt s8;apply qc9 #[_,rfl,?_];show Q ?U6 _;rw[sz];exact k k8 gz8 (up _ _ D.TOz gb5) (f15.at λo e=>up _ o D.i1z e) (f25.at λo e=>up _ o D.i2z e) gt s8 λc o c1 c2 c3 c4 e=>up c o c1 (kp c o c1 c2 c3 c4 e)
def ON[?tZ]{u v:Value}{Q:PySem.Fin->?i1}[?EG][?tT]
 [?tU] (gx:?QN)
 (k:∀h' e,?oR->?MC) :
 ?a2K ?b5 (?a79 z):=by
 ext a1P;ext ZT
 replace gz1:?IX:=gz1
 ext ZV;apply qa7 (Pt hn (g1.extBut ?d7 D.i1z) (e1.extBut ?d7 D.l1z) gx λk2 e w2 he=>?_);let#[oe,ge,ce]:=he;have gz2:?a48 k2 ?pF:=w2 _ _ ?Q6 gz1;have ne:e≠z:=λq=>by subst q;rw[gz2]at ge;cases ge;simp at ce
 apply qj2 gz2 ?cU λk3 _ w3=>k k3 e (λc o c1 _ c3 _ q=>?g9 _ _ c1 (w2 _ _ c3 (?d7 _ _ c1 q))) #[oe,?g9 _ _ ne ge,ce]
def Zf[?tZ]{x y u v:Value}[?E4][?tT]
 [?tU] [?a20]
 (k:∀h',?X9->?XY->?VE->?FJ->?LT->?RM →
   ?oR->Q (?e (?eT)) ?lI):?TB:=by
 ext a1K
 unfold pyNext;exact ?a2X (LN D gz ga gb g1 g2 e1 e2 gx gy λh' a1 a2 a3 a4 a5 a6 a7=>qc9 (k h' a1 a2 a3 a4 a5 a6 a7))
def w9[?tZ]{u v:Value}[?E4][?EG][?tT]
 [?tU] (gx:?QN)
 (k:∀h',?oR->Q ?Y ?lI):?TB:=by
 ext a1K
 unfold pyNext;apply ?a2X (ON hn D gz ga gb g1 g2 e1 e2 gx λh' e kp he=>?_);let ?OC:=he;exact qa7 (qv9 (T:=?zH) (b:=true) ?OC isSubtype_stop (qc9 (k _ kp)))
universe e9
noncomputable abbrev zt1(h:Heap)(a:Addr):Heap:=h.push ?KV
noncomputable abbrev zt2[?uJ]:Heap:=(zt1 h a).push { cls:=?b8 "tuple_iterator",data:=?gL #v[?d8,?z7] }
noncomputable abbrev zt3[?uJ]:Heap:=(?M8).push { cls:=?oL,data:=?i7 #v[?h ?PL,?h (zt1 h a).objs.size] }
noncomputable abbrev zt4[?uJ]:Heap:=(?LJ).push { cls:=?oL,data:=?i7 #v[?aV,?aV] }
noncomputable abbrev YJ[?uJ]:Heap:=(zt4 h a b).push { cls:=?p1,data:=?gL #v[?aV,?AF,?AF,?h (?M8).objs.size,?h (?LJ).objs.size] }
def oN(a b:Addr)(xs ys:?hI):Meets (Builtin.«zip.__new__» #[[?p1,?bG,?d8],[]]) (λ_ R s=>?WC/\?OV/\R (.ok (.ret (?h ?CY))) { s with heap:=?vJ }) :=
 .of_wp λprog w A R s h=>by
  let ?C5:=s;let#[h1,h2,h]:=h;have hsub:=sub_zip;have g1:?IO (?OZ ?C5) a xs:=h1;have g2:?IO (?OZ #[hp.push ?KV,g,d,tk,os]) b ys:=Heap.IsTuple.push h2 _
  wp_walk using qo0 g1,qo0 g2
  exact ?wI
section
variable[?jJ][?d0][?jX]
def nU{a b:Addr}{xs ys:?hI}[?dT](h1:?WC)(h2:?OV)
 (k:∀h',?cL h' (?AK) (?zC) (?xW) ?aV->?aT h' (?zC) (?eT) (?h (?sO)) →
   ?aT h' (?xW) ?aV ?aV->?oT ?Z a 0->?oT (?sO) b 0->h'.objs.size=?S6 →
   (∀c o,?Q5)->Q (?h (?AK)) ?lI):?a2K ?b5 (?f7 (?p1) ?AH):=by
 apply callType_new F.called_zip ?aE (F.typeCall_zip_2 _ _) (F.newCall_zip_2 _ _) (λobj=>F.args_object_init_3 obj _ _) F.entry_zip_new (oN a b xs ys) #[h1,h2,?_];have z1:?NQ=?sO:=qi4 ..;have z2:?UM=?zC:=by rw[qi4,z1]
 have z3:?L9=?xW:=by rw[qi4,z2]
 have z4:?CY=?AK:=by rw[qi4,z3]
 have z5:(?vJ).objs.size=?S6:=by rw[qi4,z4]
 have q5:?kO ?CY=?kC:=?f3;have q4:?kO ?L9=?kC:=?NT;have q3:?kO ?UM=?kC:=?RK;have q2:?kO ?NQ=?kC:=?V9;have q1:?kO ?Z=?kC:=?a4K (?V9);show _/\_;rw[z2,z3,z4]at q5;rw[z1,z2]at q3;rw[z3]at q4;rw[z1]at q2;rw[z4];exact#[#[_,q5,rfl],k _ q5 q3 q4 #[_,q1,rfl,rfl] #[_,q2,rfl,rfl] z5 λc o x=>?a4K (qa6 _ (qa6 _ (qa6 _ (qa6 _ x))))]
universe e9
def tup_cell{h:Heap}{j t:Addr}{n:Nat}(g:?mR j t n):∃o,?BT j=?O/\∀v,o.data≠.cell v:=by
 let#[o,q,_,d]:=g;exact#[o,q,λv z=>by rw[d]at z;cases z]
abbrev SK[?jW](a b:Addr):It:=oG (SqT K) (?ZB) a b
def lO[?bK][?dW][?a2A](a b z TI TO i1 i2:Addr)(D:?RE z TI TO i1 i2 a b) :
 Xe P w K (?a4W es) ?pD ?KJ z (λi h=>?Z2/\?LA/\?a4O i i) where
 mem:=qb1 ..
 obj:=λi h ?GV=>BW hz hTI hTO ?HY ?HT
 keep:=λi h h' ?GV k=>by
  let#[k1,k2,k3,k4,k5]:=of5 k;exact#[k1 _ hz,k2 _ hTI,#[u,v,k3 _ hTO],h1.at λo q=>k4 o q,h2.at λo q=>k5 o q]
 item:=by
  ext jF;let ?QR:=st;let#[xs,ys,x,y,GC,MT,hx,hy]:=hg;ext a11;let ?pM:=ra.get hx;let#[v,hv,rv]:=rb.get hy
  exact Zf D hz hTI hTO h1 h2 (?a66 ?dP a) (?a67 ?dP b) (x:=u) (y:=v) (by simpa using hu) (by simpa using hv) λh' hz' RA HB h2' htup hsz hk =>
   eF (Y:=(SK X.K a b).yld i H) (T:=λh=>?Z2/\?LA/\?a4O ?g ?g) D I hf hz hTI hTO ?HY ?HT ru rv hz' RA htup hk (λh3 Rf q1 q2 q3=>#[q1,q2,q3,HB.at λo e=>(Rf.2 i1 D.i1z).trans e,h2'.at λo e=>(Rf.2 i2 D.i2z).trans e]) λhn=>#[_,x,y,hn,rfl,rfl,λzs q=>by rw[?LX q GC];exact hx,λzs q=>by rw[?LX q MT];exact hy]
 done:=by
  ext jF;let ?QR:=st;let#[xs,ys,GC,MT,hx]:=hg;ext a11;have la:=ra.length;have lb:=rb.length;apply w9 ?oP D hz hTI hTO h1 h2 (?a66 ?dP a) (?a67 ?dP b) ?_ λh' hk=>(?a6P ?KJ (λc o hc e=>?_))
  . simp;omega
  . let#[n1,n2,n3,n4,n5]:=zL hc;exact hk c o n1 n3 n4 n5 e
 self:=λ_ _ _ _ _ st h=>qv8 st.1 h
inductive SR[?jW][?a27]:Prop
 | mk:∀a b,(vs=?AH)->((∃xs,SqT K H1 a xs))->((∃ys,SqT K H1 b ys))->(R ?pD H1)->?RF
abbrev At0[?jW](ta:TA):TI:=?a6H ?RF
def jK:?H9 ?h8=?e (?p1):=?kK
def UH{X:Cx}[?dW][?a2A]{a b:Expr}{ta:TA}{p pos:Pos}(hg:Gl X ?h8)(hm:X.mg ?h8=none)(ha:PA X ?q2 ta)(hK:X.K=K:=by rfl)(hs:?n6 ?q2 ?a9=[?J0,?o4]:=by rfl)(hs2:?n6 [b] ?a9=[?o4]:=by rfl) :
 PI X (?a4W es) (?m4 (.Name ?h8 p) ?q2 [] pos) (At0 K ta):=by
 subst hK;intro Ae s σ H R I h;apply Call_ (L8 I hg hm jK (qh1 (D9 (ha pos Ae s σ H _ I h) λus s1 #[vs,H1,I1,r1,q1]=>?_) (by rw[hs,hs2]) (by rw[hs2];rfl)));let#[la,lb,e,#[xs,GC],#[ys,MT],q]:=q1;subst e;cases r1 with
 | cons ra rr =>
   cases rr with
   | cons rb rr =>
     cases rr;cases ra;cases rb;let#[ia,_,pa,_]:=?JJ GC;let#[ib,_,pb,_]:=?JJ MT;have a1:la<s1.heap.objs.size:=by let ?S8:=pa;exact qc1 e
     have a2:lb<s1.heap.objs.size:=by let ?S8:=pb;exact qc1 e
     apply nU (?a66 ?WU la) (?a67 ?WU lb) λh' hz hTI hTO hi1 hi2 hsz hk=>?_;apply qv8 hz #[?EN,[?EN,?a3Y 2,?a3Y 3,s1.heap.objs.size,?Y2],_,_,H1,rfl,?a7E ?wU hk,lO la lb _ _ _ _ _ (zipApart_new a1 a2),#[hz,hTI,#[_,_,hTO],hi1,hi2],I1.fp5,q]
section
variable{g:TG}{tc:TT}[?DT]
def NQ[?ZY]
 (hs:∀i x y zs τ H p,xs[i]?=?iT->?YB->?hE->?dF->g ?eO τ (?a44 p (?bS [x,y])) ?HD)
 [?a29]:?a68 ?pD tc:=bP (NE:=?ZB) O9m O9m O9m Pv h0 hl hs hd
universe e9
section
variable{κ:Type}[?G2 κ]
abbrev O5[?nE]:?dE:=(kvs.find? ?yV).map (·.2)
abbrev Mv[?nE](v:V):?iH :=
 if ?oK=true then ?dD (?a39 (?aJ,v)) else kvs++[?e6]
abbrev a9[?nE]:?iH:=kvs.filter λkv=>?a0 (?aJ≠k)
def X1[?a26](e:?bF):?SW=?iE:=?V3
def X2[?a26](e:¬?bF):?SW=O5 r k:=?V3
def EH(k:κ):∀kvs:?iH,?oK=(?eA).isSome
 | []=>rfl
 | p::r=>by
   rw[qp4];ext jN
   . simp only[X1 e,qe1 e,Bool.true_or,Option.isSome_some]
   . rw[X2 e,qf2 e,Bool.false_or];exact EH k r
def Pw[?nE](v:V):?RQ<=kvs.length+1:=by
 unfold Mv;split
 . rw[qa2];omega
 . rw[qa8,qe4,qr5];omega
def Ou.isSome_eq{o:?dE}{u:?mN}(r:Ou o u):o.isSome=u.isSome:=by
 cases o with
 | none=>cases u with
   | none=>rfl
   | some _=>ext u7
 | some _=>cases u with
   | none=>ext u7
   | some _=>rfl
def Ou.getD{o:?dE}{u:?mN}{d:V}{d':Value}(r:Ou o u)(rd:?aR d d'):?aR (o.getD d) (u.getD d'):=by
 cases o with
 | none=>cases u with
   | none=>exact rd
   | some _=>ext u7
 | some _=>cases u with
   | none=>ext u7
   | some _=>exact r
def KV.val[?gW](k:κ):Ou (?eA) (?xX):=by
 unfold KV at r
 induction r with
 | nil=>ext jO
 | @cons p q ps qs h t ih =>
   let ?g1:=h;ext jN
   . have e':q.1=k:=?pT;have b:?ZP=?e q.2:=?UE
     rw[X1 e,b];exact h2
   . ext DS;have b:?ZP=?yU qs k:=?UE
     rw[X2 e,b];exact ih
def KV.any[?gW](k:κ):?oK=?GT:=by
 unfold KV at r
 induction r with
 | nil=>rfl
 | cons h t ih=>rw[qp4,qp4,ih,h.1]
def KV.repl[?gW](k:κ)[?E8] :
 KV (?dD (?a39 (?aJ,y))) (vs.map (?a39 (?aJ,u))):=by
 unfold KV at r ⊢
 induction r with
 | nil=>exact ?b6
 | @cons p q ps qs h t ih =>
   rw[qd3,qd3];apply ?UV;let ?g1:=h;ext jN
   . rw[?c6,?HC];exact#[h1,ry]
   . rw[?cC,?NF];exact ?g1
def KV.put[?gW](k:κ)[?E8]:KV (Mv kvs k y) (?uV vs k u):=by
 unfold Mv stored;rw[r.any k];by_cases e:(?GT)=true
 . rw[?c6,?c6];exact ?M3
 . rw[?cC,?cC];exact ?WQ r #[rfl,ry]
def KV.drop[?gW](k:κ):KV (?pB) (without vs k):=by
 unfold KV at r ⊢;unfold a9 without
 induction r with
 | nil=>exact ?b6
 | @cons p q ps qs h t ih =>
   let ?g1:=h;rw[ql0,ql0];ext jN
   . have a:¬?XA:=?RJ
     have b:¬?SZ:=by simp[?pT]
     rw[?f a,?f b];exact ih
   . ext DS;have a:?XA:=?RJ
     have b:?SZ:=by simp[e']
     rw[?m a,?m b];exact ?cR ?g1 ih
def KV.keys[?gW]:?dD (·.1)=vs.map (·.1):=by
 unfold KV at r
 induction r with
 | nil=>rfl
 | cons h t ih=>rw[qd3,qd3,ih,h.1]
def KV.length[?gW]:kvs.length=vs.length:=?H7 r
def rM[?nE]:(?pB).length<=kvs.length:=qh4 _ _
universe e9
def kV_is[?bK]{k:Key}{u:Value}(r:?s4):?HR:=by
 cases k with
 | inl i=>let#[t,e]:=(show ?I4 from r);subst e;exact fY P w i t
 | inr x=>let#[t,e]:=(show ?NY from r);subst e;exact fX P w x t
def BE[?bK]:∀{ks:?gB}{us:?AD},Vals (ks.map kV) us->ItemsAre ?f6 ks us
 | [],_,r=>by rw[qv3]at r;cases r;exact ?b6
 | k::ks,_,r=>by
   rw[qd3]at r;cases r with
   | cons h t=>exact ?cR (?rD h) (BE t)
noncomputable abbrev KT(H:Hp):?kW->?y1->Prop:=Paired λp q=>p.1=q.1/\H q.2.1=?e (?bS (p.1.map kV))/\?aR p.2 q.2.2
def KT.val{H:Hp}[?tV](k:?gB):Ou (?eA) ((?K9).map (·.2)):=by
 induction r with
 | nil=>ext jO
 | @cons p q ps qs h t ih =>
   let#[h1,_,h2]:=h;ext jN
   . have e':q.1=k:=?pT;have b:?FI=?e q.2:=?ID
     rw[X1 e,b];exact h2
   . ext DS;have b:?FI=atKey qs k:=?ID
     rw[X2 e,b];exact ih
def KT.repl{H:Hp}[?tV](k:?gB)[?E8] :
 KT H (?dD (?a39 (?aJ,y))) (xs.map (putAt k u)):=by
 induction r with
 | nil=>exact ?b6
 | @cons p q ps qs h t ih =>
   rw[qd3,qd3];apply ?UV;let ?PD:=h;unfold putAt;ext jN
   . rw[?c6,?HC];exact#[h1,h2,ry]
   . rw[?cC,?NF];exact ?PD
def KT.put{H:Hp}[?tV](k:?gB){b:Addr}{y:V}{u:Value}(hb:?x5)(ry:?qR) :
 KT H (Mv kvs k y) (storedH xs k b u):=by
 have e:?oK=?XM:=by
  rw[EH,(r.val k).isSome_eq,Option.isSome_map]
 unfold Mv storedH;rw[e];by_cases q:?XM=true
 . rw[?m q,?m q];exact ?M3
 . rw[?f q,?f q];exact ?WQ r #[rfl,hb,ry]
def KT.keeps[?h6][?tV](ht:∀b ys,H b=?e (?bS ys)->H' b=?e (?bS ys)):KT H' kvs xs :=
 Paired.mapP r λ_ _ z=>#[z.1,ht _ _ z.2.1,z.2.2]
section
variable[?bK]{H:Hp}{h:Heap}{a:Addr}
def WR{u:HO}[?jQ](e:Rd H a u):?a5E u:=e.ok ok
def Wr[?bJ][?jQ][?uG]:?PZ :=
 show ?a5E ?c9 from WR ok e
def kX[?bJ][?jQ][?jL]:?PZ:=Wr ok (?w e)
def iT{ks:?gB}[?jQ](e:H a=?e (?bS (ks.map kV))):?MX h ks a:=by
 let#[_,its,r,o,h1,h2,_,n,h3]:=(show ?a5E (?bS (ks.map kV)) from ok a _ e)
 exact#[o,?oI,n,h1,h2,h3,by simpa using BE r]
def RL{kvs:?kW}[?jQ](e:?wQ):?kQ/\?f2 ∧
 ?Q7:=by
 let#[z,y,xs,r,o,es,ep,h1,h2,h3,h4,h5]:=(show ?a5E (.dT kvs) from WR ok e)
 apply#[z,y,xs,r,o,es,ep,h1,h2,h3,h4,?oG,h5]
 have all:∀{l:?kW}{m:?y1},KT H l m->∀x∈m,?MX h x.1 ?iM:=by
  intro l m q
  induction q with
  | nil=>intro x hx;exact nomatch hx
  | @cons p q ps qs hq t ih =>
    intro x hx;rcases qd4.mp hx with e | hx
    . subst e;exact iT ok (by rw[←hq.1];exact hq.2.1)
    . exact ih x hx
 exact all r x hx
def Ax3{kvs:?kW}[?jQ](e:H a=?e (.dT kvs)):?kQ/\?f2 ∧
 ?Q7:=RL ok (?w e)
universe e9
abbrev DGet(H:Hp)(a:Addr)(y:V)(r:?dE):Prop :=
 (∃kvs k,?lW/\y=kV k/\r=?eA)\/∃kvs k b,?wQ/\?qS/\?x5/\r=?eA
abbrev j7(H:Hp)(a:Addr)(y v:V)(H':Hp):Prop :=
 (∃kvs k,?k5/\y=kV k/\?zR/\H'=?U1) ∨
 ∃kvs k b,H a=?e (.dT kvs)/\?qS/\?x5/\?zR/\H'=?a44 a (.dT (?yZ))
def j7.k{H:Hp}{a:Addr}[?bJ]{k:Key}{v:V}[?jL](hl:?zR):j7 H a (kV k) v (?U1):=?w #[kvs,k,e,rfl,hl,rfl]
section
variable[?dS]{y v:V}{u r:Value}{o:?dE}[?d0]
def Bm.big[?aH]:?a4C sysModules:=by
 have h:?a4C mainGlobals:=(I.mod.glob.keeps I.bk).lt;exact qs5 ?aE h
def Xv{h':Heap}{t':Nat}{ob:HO}[?aH](mu:Mut (H a))(hs:?X5 a ?a3 h')(he:?ND)(new:?gQ ?mI X.w (?a44 a ob) h' a ob) :
 Bm X Ae σ (?a44 a ob) { s with heap:=h',toks:=t' } :=
 I.write (x:=a) (e:=a) mu (?w rfl) (λb q hb z=>(hs.2 b hb).trans z) he new
def b8[?bK]{H':Hp}{h':Heap}[?bJ][?uE](z:?kQ)(hd:?f2)(rel:?hR)(dd:?KX ?f6 a vs) :
 ?gQ P w H' h' a ?c9:=?D8
def nJ{H':Hp}{Q:?PB}(hu:?IV)[?aH](g:j7 H a y v H')(ry:?qR)(rv:?aR v r)(h:∀s',?YI->Q () s') :
 ?a2K ?fK (setItem ?f5 u r):=by
 rcases g with⟨kvs,k,e,ey,l,eH⟩|⟨kvs,k,b,e,ey,eb,l,eH⟩
 . subst ey eH;ext DX;have hz:vs.length<=sizeLine:=?wT
   ext a0L
   apply wpAny_setItem_pairs (hsz:=hz) ?qN dd ?QW;ext a0S
   exact Xv I ?r4 hs he (b8 hl hd (rel.put k rv) OJ)
 . subst ey eH;cases (show u=?eK b from ry);let ?SX:=Ax3 ?c1 e;have hz:xs.length<=sizeLine:=by rw[←?H7 rel];exact z
   ext a0L
   apply wpAny_setItem_heap (hsz:=hz) (tupleKind_room_in1 hu) (?NU) dd ?QW;let#[q,es,ep,hq,h2,h3,h4,_,h5]:=OJ;apply Xv I ?r4 hs #[q,hq] #[hl,hd,_,(rel.put k eb rv).keeps λc ys ec=>?_,q,es,ep,hq,h2,h3,h4,h5];rw[Ak (Fh ec e (λz=>nomatch z))];exact ec
universe e9
section
variable[?dS][?bJ]{k:Key}{u:Value}[?d0]
def Ax4{v:V}{more:?AD}[?dT][?aH][?jL](ry:?s4)(l:?eA=?d9)(hm:more=[]\/∃x,more=[x])
 (h:∀w' s',?a3B (upd H a (.dK (?pB))) s'->?aR v w'->Q w' s'):?a2K ?fK (?f7 ?K8 (?FP)):=by
 ext DX;let#[w',hw,rw']:=Ou.some_of (v:=v) (o:=?xX) (?a6W k)
 have hp:?SB:=by
  cases k with
  | inl i=>ext a0Y
  | inr x=>ext a0Z
 have ha:argsOk ?HL #[?FP,[]]:=by
  rcases hm with q|⟨x,q⟩
  . subst q;exact PySem.F.args_dict_pop_2 _ _
  . subst q;exact ?LG
 apply ?lE qu9 ?lB ?NS ha (meets_dict_pop_there ?dY a ?qN more hm hp)
  #[vs,w',dd,?wT,hw,λh' OJ hs=>h w' _ ?_ rw']
 ext a0S
 exact Xv I ?r4 hs he (b8 (qa5 (rM kvs k) z) hd (rel.drop k) OJ)
def Ae0{r:Value}[?dT][?aH][?jL](ry:?s4)(l:?JZ)(h:∀s',?BF->Q r s') :
 ?a2K ?fK (?f7 ?K8 ?UX):=by
 ext DX;have hn:?xX=none:=Ou.none_of (?a6W k)
 have hp:?SB:=by
  cases k with
  | inl i=>ext a0Y
  | inr x=>ext a0Z
 exact ?lE qu9 ?lB ?NS (?LG) (meets_dict_pop_default ?dY a ?qN hd hp r) #[vs,dd,hn,h _ (I.tok _)]
def Ax5[?dT][?aH][?uG](h:∀t s',?BF->Q (?n ?j2 t) s'):?a2K ?fK (?f7 (?dR "len") [?bG]):=by
 ext DW;apply call_len_dict hd dd (by ext nN;rw[sizeLine_eq]at z;omega) ?_;ext nN;exact h _ _ (I.tok _)
universe e9
inductive IsDPut(D:Ends)(σ:St)(v:V)(x:V)(y:V)(H3:Hp):Prop
 | mk:∀a H4,?sC->(j7 H3 a y v H4)->(D.nx σ H4)->?XI
abbrev Ao2(td ty tv:TE):TS:=λD σ H=>tv σ H λv H1=>td σ H1 λx H2=>ty σ H2 λy H3=>?XI
section
variable{X:Cx}{o i e value:Expr}{pos pos' tpos:Pos}{td ty tv:TE}
def Nw(hu:?J3)(ho:?N6)(hi:PE X i ty)(hv:PE X value tv)(hs:swapsWith value (?e (?LI)) pos.line ?a9=pure ?cK) :
 PS X (.Assign [?LI] value pos) (Ao2 td ty tv):=by
 intro Ae s σ H D I h;apply wpAny_Assign_Subscript (D9 (?a7H hv) λr s1 #[v,H1,I1,rv,q1]=>D9 (?a3N ho) λu s2 #[x,H2,I2,rx,q2]=>D9 (hi Ae s2 σ H2 _ I2 q2) λiv s3 _z=>?_) hs;let#[y,H3,I3,ry,a,H4,ex,g,q3]:=_z;subst ex;obtain rfl:u=?eK a:=rx;exact nJ hu I3 g ry rv λs4 I4=>#[σ,H4,I4,q3]
universe e9
def dk_empty[?bK]{H:Hp}(h:Heap)(hb:sysModules<h.objs.size):?gQ P w H (h.push ?LQ) ?PL (?hB) :=
 #[?aM,?a4Y hb,[],?b6,?F6 h]
abbrev yU:TE:=λ_ H Q=>?a7J (?hB)
section
variable[?uN]
def Fr:PE X (.Dict [] [] pos) yU:=λAe s σ H Q I h =>
 wpAny_Dict_empty #[?eT,_,?sX (a:=s.heap.objs.size) (o:=?hB) (t':=s.toks) (λ_ _ q=>?a4K q) ?i (dk_empty ?a3 I.big),rfl,h _ (?k4 ?i)]
universe e9
abbrev tPairs:?kH->St->Hp->(?I1)->Prop
 | [],_,H,Q=>Q [] H
 | (tk,tv)::r,σ,H,Q=>tk σ H λx H1=>tv σ H1 λy H2=>?AQ r σ H2 λps H3=>Q (?SJ) H3
noncomputable abbrev VV:?a4S V V->?a4S Value Value->Prop:=Paired λp q=>?aR p.1 q.1/\?aR p.2 q.2
abbrev PPs(X:Cx)(pos:Pos)(keys:?CD)(values:?eH)(tP:?kH):Prop :=
 ∀(Ae:Bi) (s:Shared) (σ:St) (H:Hp) (Q:?I1),?TF->?AQ tP σ H Q →
   ?p ?fK X.A (evalPairs (pairTrees keys ?BR ?a9 pos)) (λvs s'=>∃ps H',?YI/\VV ps vs/\Q ps H') X.xe s
def Ny[?uN]:PPs X pos [] [] []:=λAe s σ H Q I h=>pairTrees_nil_walk #[[],H,I,?b6,h]
def Kt[?uN]{k v:Expr}{ks:?CD}{vs:?eH}{tk tv:TE}{tP:?kH}(hk:PE X k tk)(hv:PE X v tv)(hr:PPs X pos ks vs tP) :
 PPs X pos (?e k::ks) (v::vs) ((tk,tv)::tP):=λAe s σ H Q I h =>
 pairTrees_cons_walk (D9 (?a7H hk) λu s1 #[x,H1,I1,rx,q1]=>D9 (?a3N hv) λw2 s2 ?CO =>
  D9 (hr Ae s2 σ H2 _ I2 q2) λws s3 #[ps,H3,I3,rel,q3]=>#[?SJ,H3,I3,?cR #[rx,ry] rel,q3])
abbrev Fs(kvs more:?c7):?c7:=more.foldl (λacc kv=>Mv acc ?aJ kv.2) kvs
def KV.merge:∀{more:?c7}{rs:?q9}[?bJ][?uE],KV more rs->?hR->KV (?yO) (merged vs rs):=by
 intro more rs kvs vs r;unfold KV at r
 induction r generalizing kvs vs with
 | nil=>intro q;exact q
 | @cons p q ps qs h t ih =>
   intro r0
   have e:KV ?oQ (?uV vs q.1 q.2):=by
    have:=r0.put p.1 h.2;rw[←h.1];ext aQ
   exact ih e
def L7:∀(more kvs:?c7),(?yO).length<=kvs.length+more.length
 | [],kvs=>by show kvs.length<=kvs.length+0;omega
 | p::r,kvs=>by
   have h1:=L7 r ?oQ;have h2:=Pw kvs p.1 p.2;show(Fs ?oQ r).length<=_;rw[qe4];omega
def f9[?bK]:∀[?bJ]{ws:?a4S Value Value},VV (?dD ?N5) ws->∃rs,Carries ?f6 ws rs/\KV kvs rs
 | [],_,r=>by rw[qv3]at r;cases r;exact#[[],True.intro,?b6]
 | p::kvs,_,r=>by
   rw[qd3]at r;cases r with
   | @cons a b as bs h t =>
     let#[rs,c,q]:=f9 (P:=P) (w:=w) t;let ?IJ:=b;exact#[(p.1,b2)::rs,#[?rD h.1,rfl,c],?cR #[rfl,h.2] q]
abbrev An3(tP:?kH):TE:=λσ H Q=>∀p,?dF->?AQ tP σ (?a44 p (?hB)) λps H2=>H2 p=?e (?hB)/\∃kvs:?c7,ps=?dD (?N5)/\kvs.length<=15/\Q ?eO (upd H2 p (.dK (?k1)))
def N2[?uN]{keys:?CD}{values:?eH}{tP:?kH}(h:PPs X pos keys ?BR tP)(hall:keys.all (·.isSome)=true)(hl:keys.length=values.length)(h0:keys≠[])
 (h15:keys.length<=15):PE X (.Dict keys ?BR pos) (An3 tP):=by
 intro Ae s σ H Q I q;have hn:=?k4 (qa3 ?Z);have I1:=?sX (a:=s.heap.objs.size) (o:=?hB) (h':=?rL) (t':=s.toks) (λ_ _ q=>?a4K q) ?i (dk_empty ?a3 I.big);apply wpAny_Dict_walk (knd:=?vS) hall hl h0 h15 (D9 (h Ae _ σ _ _ I1 (q _ hn)) λws s2 _z=>?_);let#[ps,H2,I2,rel,e,kvs,ep,lk,q2]:=_z;subst ep;let#[rs,c,rk]:=f9 (P:=X.prog) (w:=X.w) rel;let#[z,hd,vs0,r0,dd]:=kX I2.hok e;cases r0;apply#[rs,c,dd,λh' OJ hs=>#[?eT,_,?_,rfl,q2]]
 have hz:?L1:=by
  have h1:=?ZA;rw[qr5]at h1;rw[sizeLine_eq];omega
 have he:∃q,?mF ?Z=?e q:=?QD
 exact Xv I2 ?r4 hs he (b8 hz hd (rk.merge ?b6) OJ)
structure M2(X:Cx)(o:Expr)(m:Str)(apos:Pos)(e f:Expr)(cpos:Pos):Prop where
 base:?W0 o m ?a9 (?WI)=?WI
 few:((?PI).all (λx=>!x.1)&&(backToKw ?fP (keywordEach [] ?a9)).all (λx=>x.1.isSome)
  && ?a0 ((?qY:?eH).length+([]:?P8).length+(if ([]:?P8).isEmpty then 0 else 1)<30))=true
 line:?MA
 trees:?PI=[(?cK,?yG),(?cK,?hW f ?a9)]
abbrev IsD(H:Hp)(a:Addr):Prop:=(∃kvs,?lW)\/∃kvs,?wQ
def QV[?dS][?aH](d:IsD H a) :
 ?W5/\(∀b,?eK a=?d8->∃ob,?WO/\ob.dict=none)/\?f2:=by
 rcases d with⟨kvs,e⟩|⟨kvs,e⟩
 . let#[_,hd,vs,_,dd]:=?l9;ext a08
 . let#[_,hd,xs,_,dd]:=?GN;ext a08
section
variable[?dS]{y d:V}{u r:Value}{o:?dE}[?d0]
def Ae3[?dT](hu:?IV)[?aH](g:DGet H a y o)(ry:?qR)(rd:?aR d r)(h:∀w' s',?BF->?aR (o.getD d) w'->Q w' s') :
 ?a2K ?fK (?f7 (?dR "dict.get") ?UX):=by
 rcases g with⟨kvs,k,e,ey,l⟩|⟨kvs,k,b,e,ey,eb,l⟩
 . subst ey;ext DW;apply ?lE qv0 ?lB ?I2 (?a69 _) (meets_dict_get_default ?dY a ?qN hd r) #[_,dd.mapOf,?OI];rw[l];exact(rel.val k).getD rd
 . subst ey;cases (show u=?eK b from ry);let ?SX:=?GN;apply ?lE qv0 ?lB ?I2 (?a69 _) (meetsH_dict_get_default (?D3 ?dY) a b hd r) #[tupleKind_room_in1 hu,k,xs,?NU,dd,?OI];rw[l];exact(rel.val k).getD rd
universe e9
inductive ItDGet2(ty:TE)(tx:TE)(σ:St)(Q:VK)(x:V)(H1:Hp):Prop
 | mk:∀a,?sC->(?OU)->(ty σ H1 λy H2=>tx σ H2 λz H3=>∃o,DGet H3 a y o/\Q (o.getD z) H3)->?QX
abbrev YU(td ty tx:TE):TE:=λσ H Q=>td σ H λx H1=>?QX
abbrev YT(td ty tx:TE):TE:=λσ H Q=>td σ H λx H1=>∃a,x=?bG/\?OU/\ty σ H1 λy H2=>tx σ H2 λz H3=>∃kvs k,H3 a=?e ?c9/\y=kV k ∧
 (∀v,?eA=?d9->Q v (upd H3 a (.dK (?pB))))/\(?JZ->Q z H3)
section
variable{X:Cx}{o e f:Expr}{apos cpos:Pos}{td ty tx:TE}
def Y2(hu:?J3)[?a1V](m:M2 X o "get" apos e f ?fP):?a45 "get" YU:=by
 intro Ae s σ H Q I h;apply ?a33 qv0 PySem.F.type_dict_get;ext ZZ
 apply qr0 rfl (qy0 (qq6 (D9 (?a3N he) λiv s2 ?CO =>
  ?a34 #[z,H3,I3,rz,ov,g,q3])))
 exact Ae3 hu I3 g ry rz λw' s4 I4 rw'=>#[_,H3,I4,rw',q3]
def PR[?a1V](m:M2 X o "pop" apos e f ?fP):?a45 "pop" YT:=by
 intro Ae s σ H Q I h;apply ?a33 qu9 PySem.F.type_dict_pop;ext ZZ
 apply qr0 rfl (qy0 (qq6 (D9 (?a3N he) λiv s2 ?CO =>
  ?a34 #[z,H3,I3,rz,kvs,k,ea,ey,q3,q4])))
 subst ey;cases l:O5 kvs k with
 | some v=>exact Ax4 I3 ea ry l (?G #[fv,rfl]) λw' s4 I4 rw'=>#[v,_,I4,rw',q3 v l]
 | none=>exact Ae0 I3 ea ry l λs4 I4=>#[z,H3,I4,rz,q4 l]
universe e9
section
variable[?dS][?bJ][?d0]
def rQ[?dT][?aH][?uG](h:∀p s',?dF->?a3B (upd H p ?c9) s'->Q ?eO s'):?a2K ?fK (?f7 ?pA [?bG]):=by
 ext DW;apply kt_call_dict hd dd (?wT) λh' OJ hs=>?_;apply h _ _ (?k4 ?i) (?sX (a:=s.heap.objs.size) (o:=?tC) (t':=s.toks) (λb q hq=>?_) ?i (b8 z (?a4Y I.big) rel OJ));exact(hs.2 b (?a59 hq)).trans (?a4K hq)
universe e9
section
variable[?dS]{y:V}{u:Value}[?d0]
universe e9
section
variable{X:Cx}
def bQ:E4 X (?dR "len") (λxs H Q=>∃a kvs,xs=[?sQ a]/\?k5/\Q (?n ?j2) H):=by
 ext nC;let#[a,kvs,rfl,ha,q]:=h;ext E3;exact Ax5 I (?w ha) λt s' I'=>#[?n ?j2,H,I',?kG,q]
universe e9
universe L2
namespace L2
open PySem PySem.Spec PyProof.Rows PySem.SeqAt
abbrev cK[?bH]:?c7:=?hA λp=>(?qP,?bQ p.2)
abbrev lookI[?bH](k:Int):?lT Int:=(ms.find? ?g0).map (·.2)
inductive Ot:?y ?qT->?dL->Prop
 | nil:Ot [] []
 | cons {e:DictEntry}{k v:Int}[?nL][?cE]{t t':Tok}:?KH->?YK->?O0->?n2->Ot (e::es) (?e6::ms)
def Ot.length[?nL][?cE](h:?n2):es.length=ms.length:=by
 induction h with
 | nil=>rfl
 | cons _ _ _ _ ih=>simp[ih]
def Ot.get[?nL][?cE](h:?n2):∀{i:Nat}{e:DictEntry},es[i]?=?e e->∃k v t t',ms[i]?=?z8/\?KH/\?YK/\?O0:=by
 induction h with
 | nil=>intro i e q;simp at q
 | @cons e0 k v es ms t t' h1 h2 h3 _ ih =>
   intro i e q;cases i with
   | zero =>
     have:e0=e:=?gJ
     subst this;exact#[k,v,t,t',?c3,h1,h2,h3]
   | succ i =>
     let#[k',v',t1,t2,q1,q2]:=ih (i:=i) (e:=e) (?gJ);exact#[k',v',t1,t2,?SU,q2]
def Ot.find[?nL][?cE](h:?n2)(k:Int):es.findIdx? (λe=>?gH k e.key)=?O7 ?g0:=by
 induction h with
 | nil=>rfl
 | @cons e0 k0 v es ms t t' h1 h2 h3 _ ih =>
   rw[qx0,qx0,h1,ih]
   have e:?gH k (?n k0 t)=?a0 (k0=k):=by
    by_cases q:k0=k
    . subst q;ext nO
    . simp[Value.isInt,q];try exact ?LH
   rw[e]
structure Nk(h:Heap)(a:Addr)[?bH]:Prop where
 ex:∃o es ep,?BT a=?O/\o.ExactDict/\?y5/\?OJ
 sys:?f2
 nd:(?hA (·.1)).Nodup
def Nk.typeIs[?jX]{a:Addr}[?cE](x:?hQ):?W5:=let #[o,_,_,ho,hc,_]:=x.ex;#[o,ho,hc.1]
def iQ[?cE]{k:Int}(h:?P9=none):?fG=none:=by
 unfold lookI;rw[List.findIdx?_eq_none_iff]at h;rw[List.find?_eq_none.mpr (λp hp=>by have:=h p hp;simpa using this)];rfl
def IP[?cE]{k:Int}{j:Nat}(h:?P9=?e j):∃v,ms[j]?=?z8/\?fG=?d9:=by
 induction ms generalizing j with
 | nil=>simp at h
 | cons p ms ih =>
   rw[qx0]at h;by_cases q:?bF
   . rw[qe1 q,?q]at h;cases h;apply#[p.2,by simp[←q],?_];unfold lookI;rw[List.find?_cons_of_pos (?gJ)];rfl
   . rw[qf2 q,if_neg (by decide)]at h;cases h2:ms.findIdx? (λp=>decide (p.1=k)) with
     | none=>rw[h2]at h;cases h
     | some j' =>
       rw[h2]at h;have e:j=j'+1:=by simpa using h.symm
       subst e;let#[v,h3,h4]:=ih h2;apply#[v,by simpa using h3,?_];unfold lookI at h4 ⊢;rw[List.find?_cons_of_neg (?gJ)];exact h4
def VX(fs:?xC)(p:?qT->Bool):?CA p=fs.toList.findIdx? p:=by
 cases fs;simp
def As9[?jJ][?d0][?jX]{x y:Int}{t u:Tok}{Q:?ZI}(h:Q (?a0 (x=y)) s):?a2K ?b5 (eqBool ?OT ?JR) :=
 (?pH).eqBool (by show ?gH x ?OT=true;ext nO) (by show ?gH y ?JR=true;ext nO) h
def zZ[?jJ]{es:?xC}[?cE](h:?OJ):KeysOf (?pH) es:=by
 intro e he;let ?BS:=Array.mem_iff_getElem.mp he;let#[k,v,t,t',_,h1,h2,_]:=h.get (i:=i) (e:=es[i]) (by simp[hi]);exact#[k,by show ?gH k _=true;rw[h1];ext nO,h2]
def Tq[?jJ][?d0][?jX]{id:String}{a b:Addr}{ms ns:?dL}{Q:?ZI}(ha:?hQ)(hb:?rP)
 (h:Q ?lD s):?a2K ?b5 (?BX id a b):=by
 let#[oa,es,ep,hoa,_,hda,hea]:=ha.ex;let#[ob,fs,XR,hob,_,hdb,heb]:=hb.ex;have la:es.size=ms.length:=by rw[←hea.length];simp
 have lb:fs.size=ns.length:=by rw[←heb.length];simp
 unfold Builtin.Dict.samePairs
 have sh:∀{c:Addr}{Q:?PB},(c==sysModules)=false->Q () s->?a2K ?b5 (Builtin.Dict.showsAll c):=λ{c Q} hc hq=>by
  unfold Builtin.Dict.showsAll;rw[?f (by rw[hc];exact qe5)];exact qc9 hq
 apply qa7 (sh ha.sys (qa7 (sh hb.sys ?_)));apply ?a5P qu8 (qa7 (qu8 hob hdb ?_));by_cases hl:ms.length=ns.length
 . rw[?f (by simp[la,lb,hl])];have e0:(?xY)=true:=?UZ
   rw[e0,Bool.true_and]at h;apply ?a5P wpAny_dictEpoch ?_;rw[Std.Legacy.Range.forIn_eq_forIn_range']
   apply qa7 (qn9 (wpAny_forIn_list _ (λrest r s'=>s'=s/\r=(?Y,())/\∃i,rest=List.range' i (?ON) 1/\i<=ms.length/\∀p∈ms.take i,?bD ns p.1=?iE)
    (λr s'=>s'=s/\((r=(?Y,())/\(?a3E ns)=true)\/(r=(?e ?cK,())/\(?a3E ns)=false))) ?_ ?_ _ _ #[rfl,rfl,0,?_,?aM,?c3]) (λr s' hr=>?_) ?RI)
   . rintro i rest r s' ⟨rfl,rfl,i1,hr,hi,hd⟩
     have hlt:i1<ms.length:=by
      ext h0;rw[?a2Y ?KT 0]at hr;cases hr
     rw[?a6T ?KT (i1+1),List.range'_succ]at hr;cases hr;have hie:i<es.size:=O9m
     let#[k,v,t,t',hm,h1,h2,h3]:=hea.get (i:=i) (e:=es[i]) (by simp[hie])
     have hmi:ms[i]=?e6:=by
      rw[qa1 hlt]at hm;exact qb9 hm
     apply ?a5P qu8 ?_;rw[?RW hie];dsimp only;apply qa7 (qn9 (Q:=λsame s''=>s''=s'/\same=?a0 (?yF=?d9)) (qq3 ?_) (λsame s'' hs=>?_) ?RI)
     . rw[h1,h2];apply qa7 (wpAny_dictFind_of (knd:=?pH) (k:=k) (show ?gH k (?n k t)=true from by ext nO) hob hdb (zZ heb) ?_)
       have ef:(?CA λe=>(?pH).is k e.key)=ns.findIdx? ?g0:=by
        rw[←heb.find k];show ?CA (λe=>?gH k e.key)=_;exact VX _ _
       rw[ef];cases hf:ns.findIdx? (λp=>decide (p.1=k)) with
       | none =>
         dsimp only;apply qc9 ?A7;rw[iQ hf];rfl
       | some j =>
         let#[v',hj,hl2]:=IP hf;have hjn:j<ns.length:=(?p5 hj).1;have hjf:j<fs.size:=O9m
         let#[k2,v2,t2,t2',hm2,g1,g2,g3]:=heb.get (i:=j) (e:=fs[j]) (by simp[hjf]);rw[hj]at hm2;cases hm2;dsimp only;apply qa7 (qu8 hob hdb ?_);rw[?RW hjf];dsimp only;apply qq3 ?_;rw[h3,g3];apply As9 ?A7;rw[hl2];by_cases q:v=v'
         . subst q;simp
         . have q':¬v'=v:=?LH;simp[q,q']
     . let#[rfl,hs]:=hs;by_cases q:?yF=?d9
       . rw[qe1 q]at hs;subst hs;rw[?w8];apply ?a5P wpAny_dictEpoch ?_;rw[?f ?cU];apply qc9 #[rfl,rfl,i+1,rfl,hlt,?IE];rw[qf8,qa1 hlt,hmi]at hp;rcases qj8.mp hp with hp | hp
         . exact hd p hp
         . have:p=?e6:=by simpa using hp
           subst this;exact q
       . rw[qf2 q]at hs;subst hs;rw[?AA];apply qc9 #[rfl,?G ?A7];rw[List.all_eq_false];exact#[?e6,by rw[←hmi];exact qf0 hlt,?gJ]
   . rintro r s' ⟨rfl,rfl,i,hr,hi,hd⟩
     have e1:i=ms.length:=by
      apply qi8 hi ?eI;rw[?a6T ?ON ?g,List.range'_succ]at hr;cases hr
     subst e1;rw[qe7]at hd;exact#[rfl,?w #[rfl,qd8.mpr λp hp=>qe1 (hd p hp)]]
   . simp[Std.Legacy.Range.size,la]
   . obtain⟨rfl,⟨rfl,e2⟩|⟨rfl,e2⟩⟩:=hr
     . rw[e2]at h;exact qc9 h
     . rw[e2]at h;exact qc9 h
 . rw[?m (by simp[la,lb];exact hl)];have e0:(?xY)=false:=?UZ
   rw[e0,Bool.false_and]at h;exact ?a4J qx5 (qc9 h)
universe L2
namespace L2
open PySem PySem.Spec PyProof.Rows
section
variable[?jJ][?d0]
def cW:typeLookup (?wB) ?v1=pure ?Y:=am_miss_of_fast ?tB
def Zq[?jX]{a:Addr}{xs:?hI}{k:Nat}[?E4]
 (hx:?n4 a=?e { cls:=?wB,data:=?i7 xs k }) (hA:?vD)
 (h:∀h' tk,(∀b o,?q7->?mF b=?O)->Q ?Y ?s8) :
 ?a2K ?b5 (getAttr? ?f5 ?v1):=by
 let ?C5:=s;have hT:∀tk',(#[hp,g,d,tk',os]:Shared).TypeIs ?f5 ?vP:=λ_=>#[_,hx,rfl]
 have f1:=sub_AttributeError;have f3:=F.slot_list_getattribute.lookup;have f4:=F.slot_list_getattribute.bind ?f5;have f5:=am_list_getattr_none;unfold getAttr? getAttrBy? getAttrBy
 repeat (any_goals (first | assumption | exact hT _ | ((with_reducible show ?a2H (?f7 (Value.builtin "list.__getattribute__") _ _) _);apply call_meets F.slot_list_getattribute (hT _) am_entry_list_getattribute (F.args_list_getattribute_2 _ _) (meets_getattribute_miss_list a xs k #v[] ?v1 _ cW (?kK)) #[hx,hA,λh' tk' e hx'=>?_]) | wp_step))
 let#[t',u',he]:=hx'.there;show ?p _ _ (getattributeRaised _ _ _ _ _ _ _) _ _ _;unfold getattributeRaised
 repeat (any_goals (first | assumption | wp_step))
 exact h _ _ hx'.keeps
def Le:plainId ?v2=true:=?kK
def Wq:?SH table ?v2=?e Builtin.«dict.update.loop»:=entryFor_of_fast ?tB
variable{KT:Type}[?G2 KT]{knd:KeyKind prog w KT}
abbrev A04(d it:Addr)(h0 h:Heap):Prop:=∀b o,b≠d->b≠it->h0.get? b=?O->?BT b=?O
def nH(hh:?vD){d it l:Addr}{items:?hI}{prs:?R6}(hl:prs.length=items.size)(ndi:d≠it)(nld:l≠d)(nli:l≠it){h0:Heap}(hL:h0.IsList l items)
 (hP:∀(i:Nat) (x:Value),?PV=?iT->∃(p:?JS) (t:Addr) (key:Value),?I0/\x=?mV/\t≠d/\t≠it/\?a73 h0.IsTuple knd.is) {R:Result->?i1} :
 ∀(n i:Nat) (s:Shared) (acc:?R6),prs.length-i=n->i<=prs.length->acc.length+n<=sizeLine->s.heap.DictOf knd d acc->s.heap.IsListIter it l i->A04 d it h0 ?a3 →
   (∀h' tk,?KX knd d (merged acc (?qK i))->A04 d it h0 h'->R (.ok (.ret ?aV)) ?s8) →
   codeAny ?b5 A (?dR ?v2 #[[?h d,?h it,?z5 i,?aV],[]]) R s:=by
 intro n
 induction n with
 | zero =>
   ext ZW
   have hx:?PV=none:=?qE
   ext a1Q;apply qa7 (wpAny_pyNext_list_end hh hit hLs hx λh' he=>?_);show ?a2H (Builtin.Dict.addKeywords d []>>=_) _;apply qa7 ?UD;have e:?qK i=[]:=?qE
   have k':=k h' s.toks (by rw[e];exact hd.extBut he ndi) λb o n1 n2 q=>he b o n2 (hb b o n1 n2 q);exact k'
 | succ n ih =>
   ext ZW
   have hlt:i<items.size:=O9m
   let#[p,t,key,hp,ex,ntd,nti,hT,hkey]:=hP i ?NZ (?vL);ext a1Q;apply qa7 (wpAny_pyNext_list_item hit hLs (x:=?NZ) (?vL) λh1 Bg3 hs1=>?_);rw[ex];have hT1:h1.IsTuple t #v[key,p.2]:=let ?W1:=hT;#[o,(hs1.2 t nti).trans (hb _ _ ntd nti ho),r]
   have hd1:?VS knd d acc:=hd.sameBut hs1 ndi;let#[o,ho,hc,m,hdat]:=hT1;apply ?a4J qq3 ?_;apply ?a4J wpAny_tryCatch ?_;unfold Builtin.Dict.pairItems;apply qa7 (?XL (show((?OY:Shared).TypeIs (?mV) "tuple") from#[o,ho,hc]) ?_);rw[?AA];apply qa7 (qn8 ho hdat ?l5);show ?a2H (holding [key,p.2] (dictSet d key p.2)) _;apply qq3 (wpAny_dictSet_pairs (s:=?OY) hkey hd1 (λh2 hd2 hs2=>?_) O9m);apply ?a6J _
   have e2:?qK i=p::?qK ?g:=by
    rw[qt0 ?c]
    congr 1
    rw[qa1 ?c]at hp;exact qb9 hp
   have hl2:=stored_length_le acc p.1 p.2;apply ih ?g { s with heap:=h2,toks:=s.toks+1 } (?uV acc p.1 p.2) O9m O9m O9m hd2 ?_ (λb o' n1 n2 q=>?_) (λh' tk hd' hb'=>k h' tk (by rw[e2];exact hd') hb')
   . let#[oi,hoi,ri]:=Bg3;exact#[oi,(hs2.2 it (?pC ndi)).trans hoi,ri]
   . exact(hs2.2 b n1).trans ((hs1.2 b n2).trans (hb b o' n1 n2 q))
universe e9
def vals_pair{x y:V}{us:?AD}(r:Vals [x,y] us):∃a b,us=?q2/\?aR x a/\?aR y b:=by
 cases r with
 | cons h1 r =>
   cases r with
   | cons h2 r =>
     cases r;exact#[_,_,rfl,h1,h2]
def FF[?bK]{H:Hp}{h:Heap}(hok:?LK):∀[?a22],?IY->(?a30 t) →
 ∃prs:?q9,KV kvs prs/\prs.length=ts.length/\∀(i:Nat) t,?rM->∃(p:?KR) (key:Value),?I0/\?a73 h.IsTuple ?zK
 | [],[],_,_=>#[[],?b6,rfl,λi t e=>?T2]
 | [],_::_,hl,_=>?TA
 | _::_,[],hl,_=>?TA
 | t::ts,kv::kvs,hl,hk=>by
   let#[prs,h1,h2,h3]:=FF hok ts kvs (by simpa using hl) λi t e=>by
    let ?OR:=hk ?g t (?hM);exact#[kv',?mG,e2]
   let ?OR:=hk 0 t rfl;have e1':kv=kv':=?mG
   subst e1';let#[_,its,rv,o,ho,hc,hdn,n,hd]:=hok t _ e2;let#[a,b,rfl,ra,rb]:=vals_pair rv;apply#[(kv.1,b)::prs,.cons #[rfl,rb] h1,by simp[h2],λi t' e=>?_];cases i with
   | zero =>
     have:t=t':=?hM
     subst this;exact#[(?aJ,b),a,rfl,#[o,ho,hc,n,hd],?rD ra]
   | succ i =>
     let#[p,key,q1,q2,q3]:=h3 i t' (?hM);exact#[p,key,?SU,q2,q3]
inductive LJ[?EE]:Prop
 | mk:∀(p:Addr) [?a22],(?xD)->(H p=?a35 (ts.map ?sQ))->(?IY)->((?a30 t))->(∀D,?vT->Q (?h D) (?a44 D (.dK (?k1))))->?VO
abbrev zA:?w1:=λxs H Q=>?VO
def g6{X:Cx}(hc:?AW):E4 X ?pA zA:=by
 ext nC;let#[l,ts,kvs,rfl,hl,hlen,hk,q]:=h;ext E3;have hh:?Z6:=?A2;let#[hz,its,n,rv,ho]:=?c1 l _ hl;rw[qa2]at hz;have hil:its.length=ts.length:=by rw[←rv.length,qa2]
 let#[prs,hkv,hpl,hP]:=FF ?c1 ts kvs hlen hk
 have at_:∀(i:Nat) (x:Value),?Q8=?iT->∃t,?rM/\x=?mV:=λi x e=>by
  have e':its[i]?=?iT:=?hM
  have hlt:?Q2:=?WJ;have hb:ts[i]?=?e (ts[i]'(O9m)):=?VH
  let ?pM:=?a3R ?sQ ts;rw[e']at hu;cases hu;cases ru;exact#[_,hb,rfl]
 apply callType_codes (Q₁:=λobj s₁=>obj=?eT/\s₁=?ZF) PySem.F.kt_called_dict (PySem.F.kt_typeCall_dict_1 _) PySem.F.entry_dict_init (kt_code_dict_new _ ?FL) ?_;rintro obj s₁ ⟨rfl,rfl⟩;have hnew:(?rL).DictOf ?dY ?Z []:=?F6 ?a3;apply#[?ZM,PySem.F.args_dict_init_2 _ _,?_];unfold Builtin.«dict.__init__»;apply ?lC;unfold Builtin.Dict.selfAndRest;apply qa7 (qw8 ?ZM ?_);show ?a2H (pure (?Z,[?eK l])) _;apply ?lO;show ?p _ _ (Builtin.Dict.updateFrom "dict.__init__" ?Z (?h l) [] ?aV) _ _ _;unfold Builtin.Dict.updateFrom;have ho1:(?rL).get? l=?e { cls:=?wB,data:=?i7 ?oI n }:=?a4K ho;apply qa7 (?XL (show((?ZF:Shared).TypeIs (?h l) ?vP) from#[_,ho1,rfl]) ?_);rw[?AA];apply qa7 (Zq ho1 hh λh1 tk hk1=>?_);rw[?m (show(none:?mN).isNone=true from rfl)];apply ?a4J qx5 ?_;have hl1:h1.IsList l ?oI:=#[_,?HE,rfl,n,rfl]
 apply qa7 (qr1 hl1 ?_);apply ?a6J _;have lt0:?a4C l:=qc1 ho;have nD:∀b o,?q7->?YC:=λb o e=>?JC;have up:∀b o,?q7->h1.get? b=?O:=λb o e=>hk1 _ _ (?k8);have nI:∀b o,?q7->b≠h1.objs.size:=λb o e=>?a59 (up b o e);let#[oD,esD,epD,hoD,rD]:=id hnew;have Fa:?VS ?dY ?Z []:=#[oD,esD,epD,?NC,rD]
 have ndi:s.heap.objs.size≠h1.objs.size:=?a59 (?NC)
 apply nH (knd:=?vS) (?a60 none) (prs:=prs) (items:=its.toArray) (l:=l) (d:=s.heap.objs.size) (it:=h1.objs.size) (h0:=h1.push { cls:=?b8 "list_iterator",data:=?gL #v[?h l,?z7] }) (?qE) ndi (nD _ _ ho) (nI _ _ ho)
  #[_,?a4K (?HE),rfl,n,rfl] (λi x e=>?_) prs.length 0 _ [] O9m O9m ?_ (Fa.push _) ?uW (λb o _ _ e=>e) (λh' tk' hd' hb'=>?_)
 . let#[t,e1,rfl]:=at_ i x e;let#[p,key,e2,#[o,ho',r'],e4]:=hP i t e1;exact#[p,t,key,e2,rfl,nD _ _ ho',nI _ _ ho',#[o,?a4K (up _ _ ho'),r'],e4]
 . have e0:([]:?q9).length=0:=rfl;omega
 . apply#[rfl,?eT,?a44 ?Z (.dK (?k1)),?_,rfl,q _ (?k4 ?i)]
   have hzz:?L1:=by
    have h1:=?ZA;rw[qr5]at h1;omega
   apply ?sX (a:=s.heap.objs.size) (o:=.dK (?k1)) (t':=tk') (λb o e=>hb' b o (nD _ _ e) (nI _ _ e) (?a4K (up _ _ e))) ?i (b8 hzz (?a4Y I.big) (hkv.merge ?b6) ?_);simpa using hd'
def N6:∀(more kvs:?c7),((?VP).map (·.1)).Nodup->?yO=?VP
 | [],kvs,_=>by simp[Fs]
 | p::more,kvs,h=>by
   have hnot:(kvs.any λkv=>?a0 (?aJ=p.1))=false:=by
    rw[List.any_eq_false];intro kv hkv hd;have e:?aJ=p.1:=by simpa using hd
    rw[qb0,qq0]at h;exact h.2.2 ?aJ (qk4 hkv) p.1 ?cU e
   have e:?RR=?WL:=by
    unfold Mv;rw[?f (by rw[hnot];decide)]
   show Fs ?oQ more=_;rw[e,N6 more (?WL) (by simpa using h)];simp
universe L2
namespace L2
open PySem PySem.Spec PyProof.Rows PySem.SeqAt
def Zk(a b:Addr)[?EA]:?a3I Builtin.«dict.__eq__» ?lD :=
 ?F9 λprog w A R s hs=>by
  let ?YJ:=hs
  show ?p ?b5 A.in1 (do
   let ?OL ←?J2 ?vQ ?nZ
   if ! ?TQ then ?a6I ?vQ;return ←ret .notImplemented
   ?a4P ?vQ true) _ _ s
  ext ZU;have e:∀b:Bool,(b==true)=b:=?yA
  rw[e];exact qc9 ?wI
def RcAt.dicts[?a04] :
 RcAt A s ?f5 (?d8) ?lD:=λprog w E Q h =>
 ?RD (op:=.Eq) ?CR ?z0 PySem.F.slot_dict_eq PySem.F.entry_dict_eq (PySem.F.args_dict_eq_2 _ _) (Zk a b ms ns)
  (?a3Q ?lD) hu
universe L2
namespace L2
open PySem PySem.Spec PyProof.Rows
section
variable[?dS][?bJ]
def Bm.freeze[?aH][?jL]:∃o,?a3B (?pP) s:=by
 let#[z,y,vs,r,o,es,ep,ho,c]:=id (?QE);apply#[o,?_];have ne:∀b u,?rE->u≠?tC->b≠a:=?SC
 have up:∀b u,?rE->u≠?tC->upd H a (?kP) b=?e u:=?IF
 apply I.step (g':=s.gens) (t':=s.toks) (d':=s.drawn) (h':=s.heap) (H':=?pP) (ch:=[]) (λ_ q=>nomatch q) (λb ob _ _ _ q _=>q) (λb ob _ _ _ q _=>#[?V8,q]) (λb ob _ q n=>?EM) (λb ob _ q=>#[ob,q])
  (λb xs q=>?yD) (λb ob u q=>?yD) (λb ps q=>#[#v[],by rw[?yD];simp]) (λm q=>q) (?YA) ?A5
 by_cases hb:b=a
 . subst hb;rw[Ab]at q;cases q;exact#[ho,(?HZ).stay (λ_ _ _ q=>q) (λc q=>?oM) ?zS]
 . rw[Ak hb]at q;ext a00
def Bm.thaw{o:Obj}[?aH][?a2B](hb:?PO):?a3B (upd H a ?c9) s:=by
 have ne:∀b u,?rE->u≠?kP->b≠a:=?SC
 have up:∀b u,?rE->u≠?kP->?HV=?e u:=?IF
 have no:∀b,?a6A b->?HV=none:=λb n=>?EM
 apply#[I.ok,I.os,?A5,#[I.base.keep,I.base.slot,λb ob q n x=>no b (I.base.free b ob q n x),I.base.there,λb xs q=>up b _ (I.base.tups b xs q) ?aC,λb ob u q=>?_,λb ps q=>?_],I.loc,I.cell,no _ I.free,λx c q=>no _ (I.freeC x c q),?IE,?YA,I.len]
 . have hne:b≠a:=λz=>hb ob u (z▸q);rw[Ak hne];exact ?N3 b ob u q
 . let#[m,q']:=I.base.tbls b ps q;exact#[m,up b _ q' ?aC]
 . let#[p1,p2,p3]:=I.pin p hp;exact#[p1,no _ p2,p3]
 . by_cases hba:b=a
   . subst hba;rw[Ab]at q;cases q;let#[_,q']:=?HZ;exact q'.stay (λ_ _ _ q=>q) (λc q=>?oM) ?zS
   . rw[Ak hba]at q;ext a00
def Bm.notfrz[?aH][?jL]:?PO:=λob u q=>by
 have:=?N3 a ob u q;rw[e]at this;cases this
def Bm.nodupK[?aH][?uG]:(?dD (·.1)).Nodup:=by
 let#[z,hd,vs,rel,o,es,ep,_,_,_,_,_,hn]:=?l9;rw[rel.keys];exact hn
universe e9
abbrev tFrz(t:TE):TE:=λσ H Q=>t σ H Q\/∃(a:Addr) (kvs:?c7),?k5/\((?dD (·.1)).Nodup->∀o:Obj,t σ (?pP) λv H'=>?lZ/\Q v ?l7)
abbrev A97(t:TS):TS:=λD σ H=>t D σ H\/∃(a:Addr) (kvs:?c7),?k5/\((?dD (·.1)).Nodup->∀o:Obj,t #[?a4D D.nx,λv H'=>?lZ/\D.rt v ?l7,
 ?a4D D.bk,?a4D D.ct] σ (?pP))
def IE{X:Cx}{e:Expr}{t:TE}(h:PE X e t):PE X e (tFrz t):=by
 intro Ae s σ H Q I hw;rcases hw with hw|⟨a,kvs,ea,hw⟩
 . exact h Ae s σ H Q I hw
 . let#[o,I']:=I.freeze ea;have hb:=I.notfrz ea;apply D9 (h Ae s σ _ _ I' (hw (?L6 (?w ea)) o)) λu s' #[v,H',I2,r,e2,q]=>#[v,_,?uU,r,q]
def CI{X:Cx}{st:Stmt}{t:TS}(h:PS X st t):PS X st (A97 t):=by
 intro Ae s σ H D I hw;rcases hw with hw|⟨a,kvs,ea,hw⟩
 . exact h Ae s σ H D I hw
 . let#[o,I']:=I.freeze ea;have hb:=I.notfrz ea;apply D9 (h Ae s σ _ _ I' (hw (I.nodupK (.inl ea)) o)) λf s' hq=>?_;cases f with
   | next=>ext DK
   | brk=>ext DK
   | cont=>ext DK
   | ret u=>let#[v,σ',H',I2,r,e2,q]:=hq;exact#[v,σ',_,?uU,r,q]
def iX[?dS][?bJ]{o:Obj}[?aH][?a2B] :
 ?n4 a=?O/\?f2/\?kQ/\∃vs es ep,?hR/\?y5/\es.size=kvs.length/\o.ExactDict/\s.heap.DictAt ?dY a vs ep:=by
 let#[ho,z,y,vs,r,o',es,ep,ho',ex,hd,hk,hp,hn]:=?QE;rw[ho]at ho';cases ho';apply#[ho,y,z,vs,es,ep,r,hd,?_,ex,#[o,es,ho,ex,hd,hk,hp,hn]];rw[r.length,←hp.length];simp
def KV.getV:∀[?bJ][?uE]{i:Nat}{k:Key}{v:V},?hR->?mY->∃u,vs[i]?=?e (k,u)/\?aR v u
 | _,_,i,k,v,?b6,e=>?T2
 | _,_,0,k,v,?cR (b:=q) r t,e=>by
   simp only[List.getElem?_cons_zero,Option.some.injEq]at e;subst e;let#[k',u]:=q;have e1:k=k':=r.1;subst e1;exact#[u,?c3,r.2]
 | _,_,i+1,k,v,?cR r t,e=>by
   let#[u,e1,e2]:=KV.getV (i:=i) t (?hM);exact#[u,?mG,e2]
def XI[?bK]{k:Key}{u:Value}(h:?HR):?s4:=by
 rcases Dh h with⟨i,t,rfl,rfl⟩|⟨x,t,rfl,rfl⟩
 . exact ?kG
 . exact ?kG
abbrev Itm(d:Addr)(o:Obj):It :=
 #[λi H=>∃kvs k v,?lG/\?mY,
  λi H x H'=>∃p k v,?dF/\x=?b0/\H'=?B8/\∀kvs,?lG->?mY,
  λi H=>∃kvs,?lG/\kvs.length<=i]
def W2[?jJ][?d0][?jX]{it d:Addr}{i n ep:Nat}{ok ov:Value}[?dT](hit:?W6 ?a3 it d i n ep ok ov)(h:Q ?nA s):?a2K ?b5 (pyIter ?nA):=by
 have hT:?xE ?nA ?M0:=#[_,hit,rfl]
 apply wpAny_pyIter_slot hT qw2 (qn2 qw2 hT (entryFor_alias (id':="dict_keyiterator.__iter__") ?tB rfl (?kK) ?tB:?SH table "dict_itemiterator.__iter__"=?e Builtin.«dict_keyiterator.__iter__») ?_ (PySem.F.args_dict_itemiterator_iter_1 _));show ?a2H (ret ?nA) s;exact qc9 #[_,rfl,?M0,_,hT,PySem.F.slot_dict_itemiterator_next.lookup,h]
def HK[?bK][?dW]{tes:?eH}{x1:Nat}{tpos:Pos}(d it:Addr)(o:Obj){es:?xC}{ep:Nat}(hd:?y5) :
 Xe P w K (?a4W tes) (?fO) ?iN it (λi h=>∃ok ov,?W6 h it d i es.size ep ok ov) where
 mem:=?c3
 obj:=λi h st b hb=>by
  let ?FQ:=st;have z:b=it:=?gA
  subst z;exact#[_,h1,λv q=>by cases (show Data.fields _=Data.cell v from q)]
 keep:=λi h h' st k=>by
  let ?FQ:=st;exact#[ok,ov,k it ?cU _ h1]
 item:=by
  ext jF;let ?wR:=st;let#[kvs,k,v,hz,hx]:=hg;ext a0E;let ?pM:=rel.getV hx;ext a19
  have fi:=?CV;have lti:?a4C it:=qc1 hit;have hfresh:?a6A ?Z:=?k4 ?i;rw[hn]at hit;apply wpAny_pyNext_items_item hit hm hu λkey h' hkey hout htup hsz' hk=>?_;apply#[_,rfl,wpAny_letOwnedTupleGo_items hout λh3 hen Rf=>?_]
  replace Rf:?X5 it h' h3:=Rf
  have kk:∀b ob,b ∉ ?iN->?WO->h3.get? b=?sN:=λb ob n z=>by
   have n1:b≠it:=by simpa using n
   exact(Rf.2 b n1).trans (hk b ob n1 z)
  have ht3:h3.get? ?Z=?e { cls:=?oL,data:=?i7 #v[key,u] }:=(Rf.2 _ (qn3 lti)).trans htup;have wV:∀c ob,H c=?sN->c ∉ ?iN:=λc ob e hm=>by rw[(hf c hm).1]at e;cases e
  have qC:∀b ob,H b=?sN->?YC:=λb ob z=>At z hfresh;apply#[?eT,?Y0,?_,rfl,#[?Z,k,v,hfresh,rfl,rfl,λkvs' q=>by rw[hz]at q;cases q;exact hx],#[_,_,by rw[hn];exact hen],?sS]
  . apply Bm.step (s:=s) (h':=h3) (t':=s.toks) (H':=?Y0) I (g':=s.gens) (d':=s.drawn) (ch:=?iN) (?sS) (λb ob _ _ hb z _=>?y6) (λb ob _ _ hb z _=>#[?V8,?y6]) (λb ob hb z n=>?_) (λb ob hb z=>#[ob,?y6])
     (λb ys z=>?VF) (λb ob w' z=>?VF) (λb ps z=>#[#v[],by rw[Ak (qC b _ z),z];simp]) (λm hm=>?_) (λb w' z=>?_) ?A5
    . have f:=hf b hb;exact#[f.2.2.2.1,f.2.1,f.2.2.2.2.1,f.2.2.2.2.2]
    . rw[Ak (?a59 z)];exact n
    . let#[ob,es',XR,hob,r]:=hm;exact#[ob,es',XR,kk _ ob (λq=>(hf _ q).2.1 rfl) hob,r]
    . by_cases hb:b=s.heap.objs.size
      . subst hb;rw[Ab]at z;cases z;exact#[(by show(2:Nat)<=sizeLine;decide),[key,u],?cR (XI hkey) (?cR ru ?b6),#[_,ht3,rfl,rfl,_,rfl]]
      . rw[Ak hb]at z;apply(?c1 b w' z).stay (λc y hc' q=>?_) (λc q=>?GY) λc ys q=>?GY
        rcases hc' with rfl | hc'
        . exact kk _ _ (wV _ _ z) q
        . exact kk _ _ (wV _ _ hc') q
  . have z:b=it:=?gA
    subst z;rw[Ak (qe3 lti)];exact(hf b hb).1
 done:=by
  ext jF;let ?wR:=st;let#[kvs,hz,hx]:=hg;ext a0E;ext a19
  have hl2:=rel.length;rw[hn]at hit;exact wpAny_pyNext_items_end ?oP hit hm (?qE) λh' eb=>(?a6P ?iN (λb ob hb z=>eb b ob (?gA) z))
 self:=λ_ _ _ _ _ st h=>by
  let ?wR:=st;exact W2 hit h
inductive lM(R:It->?jZ)(x:V)(H1:Hp):Prop
 | mk:∀d o kvs,(x=?h d)->(H1 d=?qI)->(R (?fO) H1)->?MY
abbrev Aa9(td:TE):TI:=λσ H R=>td σ H λx H1=>?MY
def Ku{X:Cx}{tes:?eH}{x1:Nat}{tpos apos cpos:Pos}{e:Expr}{td:TE}(he:PE X e td)
 (hbase:?W0 e "items" ?a9 (?yG)=?yG:=by rfl) (hline:?MA:=by rfl):PI X (?a4W tes) (?m4 (?yW e "items" apos) [] [] ?fP) (Aa9 td):=by
 intro Ae s σ H R I h;apply wpAny_Call_method0_late hbase hline (D9 (?a7H he) λv s1 _z=>?_);let#[x,H1,I1,r1,d,o,kvs,ex,hz,q]:=_z;subst ex;obtain rfl:v=?eK d:=r1;let#[ho,hsys,hl,vs,es,ep,rel,hd,hsz,exd,hm]:=iX I1 hz;apply#[?hH,"dict.items",qt8,?P0,PySem.F.type_dict_items,#[o,ho,exd.1],λb e=>by cases e;exact#[o,ho,exd.2.1],qr0 rfl (PySem.evalArgs_none ?_)];apply ?lE ?P0 hm.dictOf.typeIs PySem.F.entry_dict_items (PySem.F.args_dict_items_1 _) (meets_dict_items ?dY d hsys) #[#[vs,hm.dictOf],?_];have I2:?a3B H1 ?R8:=?a7E ?wU ?GQ;have hm2:=hm.push ?C9;apply wpAny_pyIter_items (s:=?R8) (v:=s1.heap.objs.size) (d:=d) ?uW hm2 ?_;have hsz2:?MZ=?Y2:=qi4 ..;apply#[_,[_],_,?fO,H1,rfl,?a7E I2.kept ?GQ,HK d _ o hd,#[?aV,?aV,?_],?sS,q]
 . rw[hsz,rel.length];exact ?f3
 . have z:b=?MZ:=?gA
   subst z;ext a1I
section
variable{g:TG}{tc:TT}[?DT]
def Su{d:Addr}{o:Obj}[?bJ](Pv:?EP)(h0:?KP)(hl:∀i zs τ H,?oU->?hE->?lG)
 (hs:∀i k v zs τ H p,?mY->?hE->?dF->g ?eO τ (?B8) ?HD)
 (hd:?a6G ?j2):?a68 (?fO) tc:=by
 apply#[λi m zs τ H=>m=kvs.length-i/\?oU/\?hE,?FV,?_];rintro i m zs τ H ⟨rfl,hi,pp⟩;have q:=hl i zs τ H hi pp;by_cases hlt:?PX
 . apply ?G #[?PU,?lK,λys' τ' H' p'=>?ZQ,?J4];let ?UL:=y;exact hs i k v zs τ _ p ?L7 pp hp
 . have e:?HG:=O9m
   subst e;exact ?w #[?TX,hd zs τ H pp]
def Qs{d:Addr}{o:Obj}[?bJ][?a0P](hl:∀i σ H,?oU->?kD->?lG)
 (hs:∀i k v σ H p,?mY->?kD->?dF->g ?eO σ (?B8) ?KZ) (hd:∀σ H,Pv ?j2 σ H->?q3) :
 ∃W:?LS,(∃m,W 0 m σ H)/\∀i m σ H,?QQ →
   ((?fO).stop i H/\?q3)\/((?fO).go i H/\∃N:?tE,?a2W ?fO):=by
 apply#[λi m σ H=>m=kvs.length-i/\?oU/\?kD,?FV,?_];rintro i m σ H ⟨rfl,hi,pp⟩;have q:=hl i σ H hi pp;by_cases hlt:?PX
 . apply ?G #[?PU,?lK,λσ' H' p'=>?ZQ,?J4];let ?UL:=y;exact hs i k v σ _ p ?L7 pp hp
 . have e:?HG:=O9m
   subst e;exact ?w #[?TX,hd σ H pp]
universe e9
universe L2
namespace L2
open PySem PySem.Spec PyProof.Rows PySem.SeqAt
def qW[?bK][?nL][?uE](hp:Pairs ?f6 es vs):∀[?cE],(∀e∈es,∃k,?zK k e.key=true/\e.hash=(?y3).hash k)->KV ?m3 vs->?n2:=by
 induction hp with
 | nil =>
   intro ms _ r;cases ms with
   | nil=>exact ?b6
   | cons p ms=>cases r
 | @cons e kv es kvs h1 h2 _ ih =>
   intro ms hk r;cases ms with
   | nil=>cases r
   | cons p ms =>
     cases r with
     | cons r0 r1 =>
       let#[k,v]:=kv;let#[e1,t',e2]:=r0;have e1':?qP=k:=e1;subst e1';let#[t,ek]:=(show ∃t,e.key=?FG p.1 t from XI h1)
       let#[k',hk1,hk2]:=hk e (qb1 ..)
       have ek':k'=?qP:=by
        rw[ek]at hk1;rcases Dh hk1 with⟨i,t2,z1,z2⟩|⟨x,t2,z1,z2⟩
        . cases z2;exact z1
        . cases z2
       subst ek';let ?WZ:=p;exact ?cR ek hk2 (h2.trans e2) (ih (λe' he=>hk e' (qa9 _ he)) r1)
def Ty[?cE]:((cK ms).map (·.1)).Nodup↔(?hA (·.1)).Nodup:=by
 unfold cK List.Nodup;rw[qm1,qt4,qt4];constructor
 . intro h;exact h.imp λ{a b} n z=>n (by simp[z])
 . intro h;exact h.imp λ{a b} n z=>n (by simpa using z)
section
variable[?dS][?cE]
def Bm.nodupC[?aH](e:?tI):(?hA (·.1)).Nodup:=Ty.mp (?L6 e)
def Bm.idict[?aH](e:?tI):?hQ:=by
 let#[z,hd,vs,rel,o,es,ep,ho,ex,hda,hk,hp,hn]:=?l9;exact#[#[o,es,ep,ho,ex,hda,qW hp (λe he=>hk e (by simpa using he)) rel],hd,I.nodupC e]
universe e9
abbrev sameC[?EA]:Bool:=?TD
inductive yE(x:V)(y:V)(H:Hp)(Q:VK):Prop
 | mk:?a78 ?M1 ?V0
abbrev Ba5:R2:=λx y H Q=>?V0
section
variable{X:Cx}{n:Nat}[?dW]
def ZI(hu:?YM):Rk X (?UB .Eq) Ba5:=by
 ext a07;exact ?a3H RcAt.dicts ?M1
inductive gY[?EE]:Prop
 | mk:∀a kvs,(xs=[?bG,.ty ?hH])->(?lW)->(Q (?B0) H)->?GX
abbrev uC:?w1:=λxs H Q=>?GX
def GP:E4 X (?dR "isinstance") uC:=by
 ext nC;let ?TV:=h;let#[u,v,rfl,rx,rt]:=X0 r;cases rt;cases rx;let#[z,hd,vs,rel,o,es,ep,ho,ex,_]:=?l9;exact PySem.IsiPair.dict_dict ho ex.1 #[?B0,H,I,rfl,q]
universe e9
universe L2
namespace L2
open PySem PySem.Spec PyProof.Rows
inductive LK[?EE]:Prop
 | mk:∀a kvs,(xs=[?bG])->(?lW)->(?a7J ?c9)->?KD
abbrev ZA:?w1:=λxs H Q=>?KD
def jJ{X:Cx}:E4 X ?pA ZA:=by
 ext nC;let ?TV:=h;let#[u,rfl,rx]:=Tc r;cases rx;exact rQ I e λp s' hp I'=>#[?b0,_,I',rfl,q p hp]
def u1{n c:Nat}(h:n+8<c):n+1<c:=O9m
abbrev Br[?bH](k:Int):Int:=(?fG).getD 0
abbrev putI[?bH](k v:Int):?dL:=if (ms.any ?g0)=true then ?a5J ?hA else ms++[?e6]
abbrev Ht[?bH](k:Int):?dL:=ms.filter λp=>?a0 (p.1≠k)
def Sw[?bH](k v:Int):Mv ?m3 (?iU) (?bQ v)=cK (putI ms k v):=by
 unfold Mv putI cK
 have e:((?hA λp=>?N1).any λkv=>?a0 (?aJ=?iU))=(ms.any ?g0):=by
  rw[List.any_map]
  congr 1
  funext p
  simp
 rw[e];split
 . rw[qm1,qm1]
   congr 1
   funext p
   simp only[Function.comp];by_cases q:?bF
   . simp[q]
   . have q':¬?N9=?iU:=λz=>q (by simpa using z);simp[q]
 . simp
def VS[?bH](k:Int):a9 ?m3 (?iU)=cK ?MW:=by
 unfold a9 Ht cK;rw[qv4]
 congr 1
 congr 1
 funext p
 simp
def sA[?bH](k:Int):O5 ?m3 (?iU)=(?fG).map ?bQ:=by
 unfold lookI cK O5;rw[List.find?_map,Option.map_map,Option.map_map]
 have e:((λp:?pR=>?a0 (p.1=?iU)) ∘ λp:?rU=>?N1)=λp:?rU=>?GM:=by
  funext p
  simp
 rw[e];rfl
def DV[?bH](k:Int):((?fG).map ?bQ).getD (?bQ 0)=?bQ (Br ms k):=by
 unfold Br;cases ?fG<;>rfl
def Dm(p:?rU)[?bH](k:Int):?bD (p::ms) k=if ?bF then ?iE else ?fG:=by
 unfold lookI;by_cases q:?bF
 . rw[List.find?_cons_of_pos (?gJ),?m q];rfl
 . rw[List.find?_cons_of_neg (?gJ),?f q]
def AX[?bH](k v j:Int):?bD (putI ms k v) j=if j=k then ?d9 else ?MS:=by
 have hs:∀[?EF],?bD (?a5J ns.map) j=if j=k then(?AI).map (λ_=>v) else ?AI:=by
  intro ns
  induction ns with
  | nil=>simp[lookI]
  | cons p ns ih =>
    rw[qd3,Dm,Dm,ih];by_cases e1:?bF
    . by_cases e2:j=k
      . simp[e1,e2]
      . have e3:¬k=j:=?RP;simp[e1,e2,e3]
    . by_cases e2:j=k
      . simp[e1,e2]
      . simp[e1,e2]
 have hn:∀[?EF],(ns.any ?g0)=(?yF).isSome:=by
  intro ns
  induction ns with
  | nil=>rfl
  | cons p ns ih =>
    rw[qp4,Dm,ih];by_cases e1:?bF<;>simp[e1]
 have ha:∀[?EF],?bD (ns++[?e6]) j=(?AI).or (if k=j then ?d9 else none):=by
  intro ns
  induction ns with
  | nil=>simp[Dm,lookI]
  | cons p ns ih =>
    rw[List.cons_append,Dm,Dm,ih];by_cases e1:p.1=j<;>simp[e1]
 unfold putI;rw[hn];cases q:lookI ms k with
 | some z =>
   simp only[Option.isSome_some,if_true];rw[hs];ext bL
   . subst e;simp[q]
   . simp[e]
 | none =>
   simp only[Option.isSome_none,qs7,if_false];rw[ha];ext bL
   . subst e;simp[q]
   . have e':¬k=j:=?m1;simp[e,e']
def IQ[?bH](k j:Int):?bD ?MW j=if j=k then none else ?MS:=by
 unfold Ht
 induction ms with
 | nil=>simp[lookI]
 | cons p ms ih =>
   rw[ql0,Dm];by_cases e1:?bF
   . rw[?f (?mG),ih];by_cases e2:j=k
     . simp[e2]
     . have e3:¬p.1=j:=λz=>e2 (by rw[←z,e1]);simp[e2,e3]
   . rw[?m (?mG),Dm,ih];by_cases e2:j=k
     . subst e2;simp[e1]
     . simp[e2]
section
variable[?bK][?dW]{mg:Str->?mN}{base:Heap}
universe e9
section
variable{X:Cx}{x:Str}{ps:?v7}{j k:Nat}{sp:Sp}{p pos:Pos}{e:Expr}{es:?eH}{t:TA}
universe e9
abbrev yP(n:Nat):?iG:=(?uZ n).map λ ?i2=>?xS
def jV(n:Nat):(yP n).length=n:=by simp[yP]
abbrev Itd(hi:Int)(n:Nat):It:=#[λi _=>i<n,λi H x H'=>H'=H/\x=?x9,λi _=>n<=i]
def Pk(a b:Int):?KI a b ?D=if b<a then a-b else 0:=by
 unfold Builtin.Range.rangeSize;rw[?w8];split
 . show(a-b-1) / 1+1=a-b;rw[Int.ediv_one];omega
 . rfl
def HV{a b:Int}(ha:-(?o0)<=a)(ha':a<?o0)(hb:-(?o0)<=b)(hb':b<?o0):Builtin.Range.small a b ?D=true:=by
 unfold Builtin.Range.small;rw[Pk];simp only[Builtin.Range.rangeFitsLong,qc3,qs1,qp7,qx6];split<;>simp<;>omega
def lQ[?bK][?dW]{tg:Expr}(it:Addr)(hi:Int)(n:Nat):Xe P w K tg (?rT) ?iN it (λi h=>?IS h it (hi+?i2*?D) (?lV-?i2) ?D) where
 mem:=?c3
 obj:=λi h st b hb=>by
  have e:b=it:=?gA
  subst e
  exact#[_,st,λv z=>by
   have z':Data.fields _=Data.cell v:=z;cases z']
 keep:=λi h h' st k=>k it ?cU _ st
 item:=by
  ext jF;let ?R3:=?CV;have W:=Walks.range (prog:=X.prog) (w:=X.w) ?oP it hi ?D n;apply W.item i s _ _ hg st λv h' tk hv st' kk=>?_;let ?kG:=hv;have I1:?KB:=?JA (λb o hb e=>kk b o (?gA) e) f0 f1 f3 f4 f5;apply#[_,rfl,KU (s:=?s8) (n:="range_iterator") st' rfl rfl ?aE #[?x9,H,I1,#[t,?_],?FL,st',λb hb=>(hf b hb).1]];rw[show hi+?xS*?D=hi-i by omega]
 done:=by
  ext jF;let ?R3:=?CV;exact wpAny_pyNext_range_end ?oP st (by have:n<=i:=hg;omega) λh' eb=>#[rfl,?JA (t':=s.toks) (λb o hb e=>eb b o hb e) f0 f1 f3 f4 f5]
 self:=λ_ _ _ _ _ st h=>wpAny_pyIter_rangeiter st h
inductive SV[?a27]:Prop
 | mk:∀(n:Nat),(vs=[?n ?fC,?n ?D,?n ?D])->(n<=1000000)->(R (Itd ?fC n) H1)->?K3
abbrev At5(ta:TA):TI:=?a6H ?K3
def UI{X:Cx}{tg:Expr}{a b c:Expr}{ta:TA}{p pos:Pos}(hg:Gl X ?m2)(hm:X.mg ?m2=none)(ha:PA X ?zB ta)(hs:?n6 ?zB ?a9=[?J0,?o4,?T6]:=by rfl)(hs2:?n6 [b,c] ?a9=[?o4,?T6]:=by rfl) :
 PI X tg (?m4 (.Name ?m2 p) ?zB [] pos) (At5 ta):=by
 intro Ae s σ H R I h;apply Call_ (L8 I hg hm boot_range (qh1 (D9 (ha pos Ae s σ H _ I h) λus s1 #[vs,H1,I1,r1,q1]=>?_) (by rw[hs,hs2]) (by rw[hs2];rfl)));let#[n,e,hn,q]:=q1;subst e;cases r1 with
 | cons r rr =>
   cases rr with
   | cons r' rr =>
     cases rr with
     | cons r'' rr =>
     cases rr;let ?kG:=r;let#[t',rfl]:=r';let#[t'',rfl]:=r'';apply call_range_3 ?aE ?_ (Or.inl (PyProof.noPylong_small O9m));apply wpAny_pyIter_range (IsRange.new ..) (HV O9m O9m O9m O9m) ?_;have I2:Bm X Ae σ H1 { s1 with heap:=?a3A t,toks:=s1.toks }:=?wU ?RL
     apply#[?LV,[_],_,_,H1,rfl,
      ?a7E I2.kept ?RL,lQ _ ?fC n,?_,?sS,q]
     . have e1:?U4=?lV-1:=?c3
       have e2:?lV-?DB=?KI ?fC ?D ?D:=by rw[Pk];ext a6
       show ?IS _ _ (?U4) (?lV-?DB) ?D;rw[e1,e2];exact ?f3
     . have e:b=?LV:=?gA
       subst e;ext a1I
def RC{hi:Int}{n:Nat}[?a0P]
 (hs:∀i σ H,i<n->?kD->g (?x9) σ H ?KZ) (hd:∀σ H,Pv n σ H->?q3) :
 ∃W:?LS,(∃m,W 0 m σ H)/\∀i m σ H,?QQ →
   ((?rT).stop i H/\?q3)\/((?rT).go i H/\∃N:?tE,?a2W ?rT):=by
 apply#[λi m σ H=>m=n-i/\i<=n/\?kD,#[n,?c3,?aM,h0],?_];rintro i m σ H ⟨hm,hi',hp⟩;by_cases hlt:i<n
 . apply ?G #[hlt,?lK,λσ' H' h=>#[n-?g,O9m,rfl,O9m,h],?_];rintro x H' ⟨rfl,rfl⟩;exact hs i σ _ hlt hp
 . apply .inl #[by show n<=i;omega,hd σ H (by have:i=n:=O9m
                                              subst this;exact hp)]
universe L2
namespace Lat
open Hb
noncomputable abbrev Mat:=?rX
def sumN_all0[?M]{n:Nat}(h:∀k,k<n->f k=0):?e9=0:=by rw[Ai h,Mo]
def sumN_one[?M]:∀{n j:Nat},j<n->(∀k,k<n->k≠j->f k=0)->?e9=f j
 | n+1,j,hj,h=>by
   show ?e9+f n=f j;by_cases e:j=n
   . subst e;rw[?R λk hk=>h k ?c ?c];omega
   . rw[?a4 (n:=n) (j:=j) ?c λk hk=>h k ?c,h n ?c (?m1)];omega
abbrev In(w n:Nat)(R:Mat)(v:?k):Prop:=∃x:?k,∀c,c<w->v c=?a2P ?jD n
def In.row{w n:Nat}{R:Mat}{j:Nat}(hj:j<n):?a5U R ?i3:=#[λk=>if k=j then 1 else 0,λc _=>by
 rw[Cu (λk=>?jD) j n,?BP]]
def In.zero(w n:Nat)(R:Mat):?a5U R (?fE):=#[?fE,λc _=>by rw[sumN_all0];intro k _;simp]
def In.mix[?a1S](hv:?xL)(a b:Int):?a5U R ?nX:=by
 let ?X:=hu;let ?mU:=hv;apply#[λk=>a*x k+b*y k,?dB];show ?C8=_;rw[?eL,hy c hc,←Ba,←Ba,←Cf];apply ?z6;rw[qr9,qe0,qe0]
def In.congr[?a1S](h:?S1):?xL:=by
 let ?X:=hu;exact#[x,λc hc=>by rw[←?sM];exact ?eL]
structure Dl(w r:Nat)(R:Mat)[?t]:Prop where
 lt:?yN
 inc:?a56 r
 zero:∀j c,j<r->?DE
 pos:∀j,j<r->?lL
 red:∀k j,k<j->j<r->?B9
def Dl.mono[?nP][?j][?nR]:∀j k,j<=k->k<r->t j<=t k:=λj k h1 h2=>by
 rcases qg4 j k with z | z
 . exact qe6 (?cZ j k z h2)
 . rw[?a2Y j k];ext dV
def Dl.ge[?nP][?j][?nR]:∀j,j<r->j<=t j
 | 0,_=>?aM
 | j+1,hj=>by
   have:=?a50 h.ge;have:=?cZ j ?a2 O9m hj;omega
def Dl.lead[?nP][?j][?nR]{v x:?k}(hx:∀c,c<w->v c=?XE) :
 ∀j,j<=r->(?KU)->(∀k,k<j->x k=0)/\(j<r->?gK=x j*?aD):=by
 intro j
 induction j with
 | zero =>
   intro _ _;apply#[?vR,?QA];rw[hx _ (h.lt 0 hr),?HQ];rw[?aX k _ hk (?cZ 0 k ?c hk)];simp
 | succ j ih =>
   intro hj hv;let ?g1:=ih O9m λk hk=>hv k O9m
   have hxj:x j=0:=by
    have e:=h2 O9m;rw[hv j ?c]at e;rcases ?pG ?rB with z | z
    . exact z
    . have:=?kI;omega
   have hall:∀k,k<j+1->x k=0:=λk hk=>by
    by_cases e:k=j
    . rw[e];exact hxj
    . exact h1 k O9m
   apply#[hall,?QA];rw[hx _ (h.lt _ hr),?HQ];by_cases e:k<j+1
   . rw[hall k e];simp
   . rw[?aX k _ hk (?cZ ?a2 k ?c hk)];simp
def Dl.only[?nP][?j][?nR]{v:?k}(hv:?X7){j:Nat}(hj:j<r)(h0:?KU)(h1:?gK=?aD)(h2:∀k,j<k->k<r->v ?a1=0):∀c,c<w->v c=?eU:=by
 let ?X:=hv;let ?J6:=h.lead hx j O9m h0
 have xj:x j=1:=by
  have e:=a2 hj;rw[h1]at e;have p:=?sI;have:(x j-1)*?aD=0:=by rw[Int.sub_mul];omega
  rcases ?pG ?F with z | z<;>omega
 have rest:∀m,m<=r->∀k,j<k->?HF:=by
  intro m
  induction m with
  | zero=>intro _ k _ hk;omega
  | succ m ih =>
    intro hm k hjk hk;by_cases e:k<m
    . exact ih O9m k hjk e
    have ek:k=m:=O9m
    subst ek;have hv2:=h2 k hjk O9m
    have e2:v ?a1=R j ?a1+?kL:=by
     rw[hx _ (h.lt k ?c)]
     have:Aj (λi=>x i*?yT) r=Aj (λi=>((?sY)*?yT)+((if i=k then 1 else 0)*(?kL))) r:=by
      ext uH;by_cases e1:i=j
      . subst e1;rw[xj,?q,?o];simp
      . rw[?aU];by_cases e3:i=k
        . subst e3;rw[?q];simp
        . rw[?vW];by_cases e4:i<j
          . rw[a1 i e4];simp
          . by_cases e5:i<k
            . rw[ih ?c i ?c e5];simp
            . rw[?aX i _ hi (?cZ k i ?c hi)];simp
     rw[this,Cf,Cu (λi=>?yT) j r,?BP,Cu (λ_=>?kL) k r,?L]
    rw[hv2]at e2;let ?RA:=?hF j k hjk O9m;have p:=?W k O9m;rcases ?X1 (x k) 0 with z | z | z
    . have:?kL<=-1*?fI:=?p2;omega
    . exact z
    . have:1*?fI<=?kL:=?p2;omega
 intro c hc;rw[?eL,?a4 hj ?AC,xj,qd7];by_cases e:k<j
 . rw[a1 k e];simp
 . rw[rest r ?i k ?c hk];simp
structure Em[?V](T T':Mat):Prop where
 fwd:∀i,i<n->?a5U T (T' i)
 bwd:∀i,i<n->?a5U T' (T i)
 st:∃r t,?bC/\?lH/\?n1
def In.sub{w n r:Nat}{R:Mat}{v:?k}(h:?xL)(hr:?bC)(hz:?S5):?X7:=by
 let ?X:=h;apply#[x,?dB];rw[?eL]
 have:∀m,r<=m->?iP->?a2P ?jD m=?XE:=by
  intro m
  induction m with
  | zero=>intro h1 _;rw[?a2Y r 0]
  | succ m ih =>
    intro h1 h2;by_cases e:r=m+1
    . rw[e]
    . show Aj _ m+x m*R m c=_;rw[?SF,hz m c ?c ?c hc];simp
 exact ?F n hr ?i
abbrev Nl(n w k:Nat)(T:Mat):Prop:=k<=n/\k<=w/\(∀j,j<k->0<?l6)/\(∀j c,j<k->c<w->c≠j->?fF=0)/\(∀i j,i<n->j<k->?PK)
def Nl.flip{n w k:Nat}{T:Mat}(h:?kV):Nl w n k (?FT):=#[h.2.1,h.1,h.2.2.1,λj c hj hc hne=>h.2.2.2.2 c j hc hj hne,λi j hi hj hne=>h.2.2.2.1 j i hj hi hne]
abbrev LG(n w k:Nat)(T:Mat):Prop:=?kV/\k<n/\k<w/\0<?aB/\∀c,c<w->c≠k->?c8=0
def Em.keep[?bX][?EC]:∀{k:Nat},?kV->Nl n w k T'/\(∀j c,j<k->c<w->T' j c=?fF)/\∀r t,?bC->?lH->(?n1)->k<=r/\∀j,j<k->t j=j:=by
 intro k
 induction k with
 | zero =>
   intro h;exact#[?R4,?qA,λr t _ _ _=>#[?aM,?hD]]
 | succ k ih =>
   intro h;let#[hn,hw,hp,hr,hc]:=h;let#[c1,c2,c3]:=ih #[O9m,O9m,?a7K ?FA,λj c hj=>hr j c O9m,λi j hi hj=>hc i j hi O9m]
   have key:∀r t,?bC->?lH->(?n1)->k<r/\?r3/\(∀c,c<w->?BA=?c8):=by
    intro r t IU hst hz;let ?vV:=?NE;have hin:=(s.bwd k O9m).sub IU hz;let ?X:=?vH;have v0:?XP:=λl hl=>by rw[ht l hl];exact hc k l O9m O9m O9m
    let#[x0,_]:=?zU;have hpk:=?TJ
    have hlt:k<r:=by
     ext h0
     have:?oA:=by
      rw[?XU];ext DN
     omega
    have htk:?r3:=by
     have g:=?IT;apply qi8 ?eI g
     have:?oA:=by
      rw[?XU];ext u8;by_cases e:l<k
      . rw[x0 l e];simp
      . ext a0O
     omega
    let#[_,a2]:=?zU;ext a0K;let ?mU:=s.fwd k O9m
    have e2:?cT=y k*?aB:=by
     rw[hy k ?c];exact ?a4 O9m λl hl hne=>by rw[hc l k hl ?c hne];simp
    have same:?aB=?cT:=by
     ext a1J
     have d2:?aB∣ ?cT:=#[y k,by rw[e2,qf1]]
     exact Int.le_antisymm (?KG) (qm2 hpk d1)
    apply#[hlt,htk,λc hcw=>?_];exact(?YW hin hlt v0 (by rw[htk];exact same) (λl hl1 hl2=>hr k ?u O9m (?e4 l hl2) (?a62 l)) c hcw).symm
   let ?BY:=s.st;let#[k1,k2,k3]:=?MB;apply#[#[hn,hw,?aA,?JW,?Z0],λj c hj hcw=>?_,λr t IU hst hz=>?_]
   . ext bL
     . subst e;rw[k3 j ?c];exact ?FA
     . exact c1.2.2.1 j O9m
   . ext bL
     . subst e;rw[?UA];exact ?a6F hr
     . exact ?a6F ?PS
   . ext bL
     . subst e;by_cases e2:i<j
       . exact ?PS i j e2 O9m O9m
       . by_cases e3:i<r
         . exact ?a4V j j
         . exact hz i j O9m hi O9m
     . exact c1.2.2.2.2 i j hi O9m hne
   . ext bL
     . subst e;exact ?UA
     . exact c2 j c O9m hcw
   . let#[a,b,_]:=?MB;let#[_,ht]:=?NE;apply#[a,?aA];ext bL
     . rw[e];exact b
     . exact ?US
abbrev V7[?V](T Nj:Mat):Prop:=∃T',?zY/\Em w n (λi j=>T' j i) (λi j=>Nj j i)
abbrev Straight[?V](T:Mat):Prop:=∀i j,i<n->j<w->?PK
def V7.next{n w k:Nat}[?EB](h:?kV):?WX/\(?FX n w Nj\/?XX):=by
 let ?A3:=s;let ?A4:=s1.keep h;let ?MV:=?Q0;have hc:?WX:=g1.flip;apply#[hc,?_];let ?BY:=s1.st;let ?T3:=s2.st;let ?vV:=?Q1;let ?WW:=?SQ;by_cases e:k<r
 . right;have p:=?qX k e;have tw:=?e4 k e;have tk:k<=t k:=?mE k e;have hin:=(?p0 ?a1 tw).sub hqw QW;let ?X:=?vH
   have v0:∀l,l<k->(?a57 ?a1) ?q8=0:=λl hl=>by
    show T' ?q8 ?a1=0;rw[hu l hl];exact ?tP l ?a1 hl tw O9m
   let#[x0,_]:=y7.lead hx k kq v0;have hkn:k<n:=O9m
   have kq2:k<q:=by
    ext h0
    have:T' k ?a1=0:=by
     show(?a57 ?a1) k=0;rw[?WA];ext DN
    omega
   have huk:u k=k:=by
    apply ?UI
    have:T' k ?a1=0:=by
     show(?a57 ?a1) k=0;rw[?WA];ext u8;by_cases e2:l<k
     . rw[x0 l e2];simp
     . show x l*?D5=0;ext a0D
    omega
   have p2:=?WD;rw[huk]at p2;apply#[hc,hkn,O9m,p2,?L5];rcases qg4 c k with z | z
   . exact hc.2.2.2.2 k c hkn z O9m
   . by_cases e3:c<q
     . exact ?a4T e3 e3
     . exact QW c k O9m hcw hkn
 . left;have T'0:∀i c,k<=i->?IL:=λi c hi hin hcw=>hz i c O9m hin hcw;intro i j hi hj hne;rcases qg4 i k with z | z
   . exact hc.2.2.2.1 i j z hj (λw=>hne w.symm)
   . let ?mU:=s2.fwd j hj;have:Nj i j=Aj (λl=>y l*T' i l) w:=hy i hi;rw[this];exact ?R λl hl=>by rw[T'0 i l z hi hl];simp
def V7.less{n w k:Nat}[?EB](h:?P6):Nl n w ?bP Nj\/(?XX/\?mP∣ ?aB/\?mP<?aB):=by
 let#[hcl,hn,hw,hp,hr]:=h;have s0:=s;let ?A3:=s;let ?A4:=s1.keep hcl;let ?BY:=s1.st;let ?vV:=?Q1;have hin:=(s1.bwd k hn).sub IU hz;let ?X:=?vH;have v0:?XP:=λl hl=>by rw[ht l hl];exact hr l O9m O9m
 let#[x0,a2]:=?zU
 have hlt:k<r:=by
  ext h0
  have:?oA:=by
   rw[hx k hw];ext DN
  omega
 have htk:?r3:=by
  apply qi8 ?eI (?IT)
  have:?oA:=by
   rw[hx k hw];ext u8;by_cases e:l<k
   . rw[x0 l e];simp
   . ext a0O
  omega
 ext a0K;ext a1J
 have le1:=qm2 hp d1
 have below:∀i,i<n->i≠k->T' i k=0:=λi hi hne=>by
  rcases qg4 i k with z | z
  . exact ?tP i k z hw O9m
  . by_cases e3:i<r
    . exact ?a4V k k
    . exact hz i k O9m hi hw
 by_cases same:?cT=?aB
 . left;have row:∀c,c<w->?c8=?BA:=?YW hin hlt v0 (by rw[htk];exact same.symm) (λl hl1 hl2=>hr ?u (?e4 l hl2) (?a62 l))
   have cl':Nl n w ?bP T':=by
    apply#[O9m,O9m,?aA,?JW,?Z0]
    . ext bL
      . subst e;exact pk
      . exact h1.2.2.1 j O9m
    . ext bL
      . subst e;rw[←row c hcw];exact hr c hcw hne
      . exact ?a6F ?tP
    . ext bL
      . subst e;exact below i hi hne
      . exact h1.2.2.2.2 i j hi O9m hne
   exact(s2.keep cl'.flip).1.flip
 . right;have lt1:?cT<?aB:=O9m
   let#[hc2,q2]:=s0.next hcl;let ?MV:=?Q0;let ?T3:=s2.st;let ?WW:=?SQ;have Bg4:=(?p0 k hw).sub hqw QW;let ?mU:=id Bg4
   have w0:∀l,l<k->(?a57 k) ?q8=0:=λl hl=>by
    show T' ?q8 k=0;rw[hu l hl];exact ?tP l k hl hw O9m
   let#[y0,b2]:=y7.lead hy k kq w0;have hyk:?cT=Aj (λl=>y l*?D5) q:=hy k hn
   have kq2:k<q:=by
    ext h0
    have:?cT=0:=by
     rw[hyk];exact ?a6C y0
    omega
   have huk:u k=k:=by
    apply ?UI
    have:?cT=0:=by
     rw[hyk];ext u8;by_cases e2:l<k
     . rw[y0 l e2];simp
     . ext a0D
    omega
   have e3:T' (u k) k=y k*?MP:=b2 kq2;rw[huk]at e3;have p2:0<?MP:=?WD;rw[huk]at p2;have d2:?mP∣ ?cT:=#[y k,by rw[e3,qf1]]
   have le2:=?KG;apply#[#[hc2,hn,hw,p2,?L5],qu2 d2 d1,O9m];rcases qg4 c k with z | z
   . exact hc2.2.2.2.2 k c hn z O9m
   . by_cases e4:c<q
     . exact ?a4T e4 e4
     . exact QW c k O9m hcw hn
abbrev Ta(i:Nat):Int:=if i%2=0 then 1 else -1
def Ym(i:Nat):Ta ?g=- Ta i:=by
 unfold Ta;by_cases h:i%2=0
 . rw[?o,?m h]
 . rw[?L,?f h];rfl
def Xm(i:Nat):(Ta i).natAbs=1:=by unfold Ta;split<;>rfl
abbrev Ge(A:Mat)(i:Nat):Mat:=λr c=>?vI
abbrev det:Nat->Mat->Int
 | 0,_=>1
 | n+1,A=>?mX
def C0:∀{n:Nat}{A B:Mat},(∀r c,r<n->c<n->?hK=B r c)->?cW=?a7A B
 | 0,_,_,_=>rfl
 | n+1,A,B,h=>by
   ext uH;rw[h i 0 hi ?c,C0 (n:=n) (A:=Ge A i) (B:=Ge B i)];intro r c hr hc;exact ?VK
abbrev B5(A:Mat)[?EH]:Mat:=λr c=>if r=p then u c else ?hK
def Bn(A:Mat)[?EH](c:Nat):B5 A p u p c=u c:=?q
def Bx{A:Mat}{p r:Nat}[?nW](h:?gV)(c:Nat):B5 A p u r c=?hK:=?f h
def T3{A:Mat}{p i:Nat}[?nW](h:i≠p):Ge ?kF i=B5 (Ge A i) ?gE (λc=>?mB):=by
 funext r c
 show(if ?a41 i then ?mB else ?vI)=if r=?gE then ?mB else ?vI
 have e:(?a41 i)↔(r=?gE):=by
  split<;>split<;>omega
 by_cases z:r=?gE
 . rw[?dJ,?m (e.mpr z)]
 . rw[?e0,?f λw=>z (e.mp w)]
def Iv{A:Mat}{p:Nat}[?nW]:Ge ?kF p=Ge A p:=by
 funext r c
 show(if ?a41 p then ?mB else ?vE)=?vE;rw[?f ?bM]
def Fb:∀{n p:Nat} (A:Mat) [?nS] (a b:Int),p<n->?a2N ?QU=a*?a7A ?kF+b*?a2N v
 | n+1,p,A,u,v,a,b,hp=>by
   show ?oH=a*?oH+b*?oH;ext jK;ext uH;by_cases e:i=p
   . subst e;rw[Bn,Bn,Bn,Iv,Iv,Iv]
     grind
   . rw[?g4,?g4,?g4,T3 e,T3 e,T3 e];rw[Fb (Ge A i) (λc=>?mB) (λc=>v ?aW) a b ?bM]
     grind
def Hd(A:Mat)(p:Nat):?I8=A:=by
 funext r c
 unfold B5;split
 . rename_i h;rw[h]
 . rfl
def Ci{A:Mat}{p q:Nat}(h:?f4)[?nS]:?H4=B5 (B5 A q v) p u:=by
 funext r c
 unfold B5;by_cases e:r=q
 . rw[?c6,?o,?c6]
 . rw[?cC,?cC]
def dM:∀[?uL],p+1<n->(?a5K ?bV)->?r2
 | n+1,p,A,hp,h=>by
   show ?mX=0
   have same:?wD=?BV:=C0 λr c hr hc=>by
    show ?vE=A (if r<p+1 then r else r+1) ?aW;ext jU
    . subst e;rw[?o,?L];exact(?p9).symm
    . by_cases e2:r<p
      . rw[?hL,?L]
      . ext DY
   have two:?mX=Aj (λi=>((if i=p then 1 else 0)*(Ta p*A p 0*?wD))+((if i=p+1 then 1 else 0)*(Ta ?bV*A ?bV 0*?BV))) ?T:=by
    ext uH;by_cases e1:i=p
    . subst e1;rw[?q,?o];simp
    . by_cases e2:i=p+1
      . subst e2;ext u1;simp
      . rw[?aU,?fY]
        have z:?WP=0:=by
         apply dM (p:=?TH) ?bM ?dB;show A (if ?gE<i then ?gE else ?q5) ?aW=A (if ?q5<i then ?q5 else ?q5+1) ?aW;by_cases e3:p<i
         . rw[?zW,?zW,?L];exact ?p9
         . rw[?vW,?o,?o,show p-1+1=p by omega];exact ?p9
        rw[z];simp
   rw[two,Cf,Cu (λ_=>Ta p*A p 0*?wD) p ?T,?L,Cu (λ_=>Ta ?bV*A ?bV 0*?BV) ?bV ?T,?L];rw[Ym,←same,←h 0 ?c]
   grind
def bO[?uL](hp:p+1<n)[?nS]:?a7N (B5 ?kF ?bV v) ?bV:=by
 have ne:p≠p+1:=O9m
 have z:?a55 ?bV:=λw=>dM hp ?WG
 have e0:=z λc=>1*u c+1*v c;rw[?a4U (B5 A p _) hp,?b1,?b1,?a4U (B5 A ?bV u) ?c,?a4U (B5 A ?bV v) ?c]at e0;ext a10
def DK:∀(d:Nat) [?uL],p+d+1<n->(?a5K (p+d+1))->?r2
 | 0,n,p,A,hp,h=>dM hp h
 | d+1,n,p,A,hp,h=>by
   have e:A=B5 (B5 A (p+d+1) (A (p+d+1))) (p+d+1+1) (A (p+d+1+1)):=?O8
   rw[e,bO ?c];rw[DK d (p:=p) ?c ?dB]
   . rfl
   . rw[?hP,?hP,?hP,Bn];exact ?sM
def Ff[?dU]{A:Mat}[?dX](hq:q<n)(hne:?f4)(h:?a5K q):?r2:=by
 rcases qg4 p q with z | z
 . exact DK (q-p-1) (p:=p) O9m (by rw[show p+(q-p-1)+1=q by omega];exact h)
 . exact DK (p-q-1) (p:=q) O9m (by rw[show q+(p-q-1)+1=p by omega];exact λc hc=>(?sM).symm)
def VN[?dU](A:Mat)[?dX](hq:q<n)(hne:?f4)(k:Int):?a2N ?ES=?cW:=by
 have:=Fb A ?bA ?dG 1 k hp;rw[Hd,Ff (A:=?FM) hp hq hne λc _=>by rw[Bn,Bx (?QY)]]at this;rw[←show(λc=>1*?cA+k*A q c)=?ES from ?aF λc=>?YV,this];omega
def gI[?dU]{A:Mat}[?b3][?nS]:?a7N (?H4) q:=by
 ext a05
 have e0:=z λc=>1*u c+1*v c;rw[?a4U (B5 A p _) hq,?b1,?b1,?a4U (B5 A q u) hp,?a4U (B5 A q v) hp]at e0;ext a10
def vN{n p:Nat}(A:Mat)[?dX]:?a2N ?K1=- ?cW:=by
 have:=Fb A ?bA ?bA ?D 0 hp;rw[Hd]at this;rw[show(?K1)=λc=>-1*?cA+0*?cA from ?aF λc=>?zF,this];omega
def NH[?dU](A:Mat)[?b3][?eX](h:a*d-b*c=1) :
 ?a7A (B5 (B5 A p λk=>a*A p k+b*A q k) q λk=>c*A p k+d*A q k)=?cW:=by
 ext a05
 have e:?a7A (B5 (?I8) q ?dG)=?cW:=?O8
 have e2:=gI (A:=A) hp hq ne ?bA ?dG;rw[Fb _ ?bA ?dG c d hq,?b1,?b1,?a6M ?bA,?a6M ?dG];rw[←?b1,←?b1,←?b1,←?b1,z ?bA,z ?dG];rw[e]at e2 ⊢;have e3:?a7A (B5 (?FM) q ?bA)=- ?cW:=O9m
 rw[e3]
 grind
abbrev prodN[?a7]:?k
 | 0=>1
 | n+1=>?o5
def Wk[?a7]:∀n,?CB=f 0*?RV
 | 0=>by simp[prodN]
 | n+1=>by
   show ?CB*f ?T=f 0*(?RV*f ?T);rw[Wk f n,qe0]
def Uf:∀{n:Nat}{A:Mat},(∀r c,r<n->c<r->?hK=0)->?cW=?a4F A n
 | 0,_,_=>rfl
 | n+1,A,h=>by
   show ?mX=_;rw[?a4 (j:=0) ?c λk hk hne=>by rw[h k 0 hk ?c];simp,Wk]
   rw[Uf (n:=n) (A:=Ge A 0) λr c hr hc=>by
    show ?a3J 0=0;ext d2;exact h _ _ ?c ?c]
   show 1*A 0 0*?l (λj=>A (if j<0 then j else j+1) ?a2) n=_;rw[qd7];rfl
abbrev DI:?v
 | 0=>1
 | n+1=>?WV
def O7[?M]{M:Nat}:∀{n:Nat},(∀k,k<n->?KA<=M)->(?e9).natAbs<=n*M
 | 0,_=>by simp[Aj]
 | n+1,h=>by
   have a:=O7 (n:=n) ?hZ;have b:=?vX;have c:=qf4 (?e9) (f n);show(?e9+f n).natAbs<=?T*M;rw[qg0,qf9];omega
def rN:∀{n:Nat}{A:Mat}{B:Nat},(∀r c,r<n->c<n->?JB<=B)->?FH<=?YF
 | 0,_,_,_=>by simp[det,DI]
 | n+1,A,B,h=>by
   show(?oH).natAbs<=?WV*B ^ ?T
   have:?OE<=?T*(B*(?YF)):=by
    apply O7 ?rS;rw[qb6,qb6,Xm,qf9];exact qf5 (h i 0 hi O9m) (rN λr c hr hc=>?VK)
   apply qa5 ?F ?MG;rw[qh9]
   grind
structure Im(i:Nat)(R:Mat)[?t]:Prop where
 inc:?a56 i
 zero:?QT
 pos:?L2
def Dl.s0[?nP][?j][?nR]:Im r R t:=#[?cZ,?aX,?W]
def Im.low[?nT][?j][?nV]{j l:Nat}(hj:j<i)(hl:l<j):?hT=0:=?aX j _ hj (?cZ l j hl hj)
def Ue:∀[?uL],p<n->(∀c,c<n->?cA=0)->?r2:=λ{n p A} hp h=>by
 have:=Fb A ?bA ?bA 0 0 hp;rw[show(λc=>0*?cA+0*?cA)=?PG from ?aF λc=>?zF]at this
 rw[show ?cW=?a2N ?fE from C0 λr c hr hc=>by
  unfold B5;split
  . rename_i e;rw[e];exact ?sM
  . rfl,this]
 omega
def Cd[?M]:∀{n:Nat},(?yE)->0<?g3
 | 0,_=>?FK
 | n+1,h=>qu1 (Cd ?hZ) (?vX)
abbrev pb(R:Mat)[?t](k:Nat):?k
 | 0=>1
 | m+1=>?s5
abbrev Rh(R:Mat)[?t](k:Nat):Nat->?tD
 | 0=>R k
 | m+1=>λc=>?iZ*?a3L m c+?s2*R ?gF c
section
variable[?nT][?j][?nV]
include h
def pU{k:Nat}:∀{m:Nat},?hV->0<?kY
 | 0,_=>?FK
 | m+1,hm=>qu1 (?W _ O9m) (pU O9m)
def dS{k l:Nat}(hl:l<k):∀{m:Nat},?hV->?xN=0
 | 0,hm=>?eG hm hl
 | m+1,hm=>by
   ext a06;rw[dS hl ?c,?WS];simp
def gO{k:Nat}:∀{m:Nat},?hV->?KQ=?kY*?fI
 | 0,_=>by show ?fI=1*?fI;omega
 | m+1,hm=>by
   show ?iZ*?KQ+?s2*R ?gF ?a1=?s5*?fI;rw[gO ?c,?eG (j:=?k9) (l:=k) ?c ?c,qe0];simp
def DR{k:Nat}:∀{m l:Nat},?hV->k<l->l<=k+m->?xN=0
 | 0,l,_,h1,h2=>O9m
 | m+1,l,hm,h1,h2=>by
   ext a06;by_cases e:l=?k9
   . subst e;rw[qf1,qo7];omega
   . rw[DR ?c h1 ?c,?WS];simp
def RX{W:Nat}{k:Nat}:∀{m:Nat},?hV->In W i R (Rh R t k m)
 | 0,hm=>?J hm
 | m+1,hm=>(RX O9m).mix ?GC _ _
def LB{k:Nat}(s:?v):∀{m:Nat},?hV->?a7L (B5 ?g8 k ?U2)=?kY*?a7L ?g8
 | 0,hm=>by
   show ?a7L (B5 ?g8 k (?g8 k))=1*_;rw[Hd];omega
 | m+1,hm=>by
   show ?a7L (B5 ?g8 k λc=>?iZ*?MT+?s2*?ZK)=_;rw[Fb ?g8 (?U2) (?WR) _ _ ?c,LB s ?c];rw[Ff (p:=k) (q:=?k9) (A:=B5 ?g8 k ?WR) ?c ?c ?c λc _=>by rw[Bn,?hP]];show _=?s5*_;rw[qe0];omega
universe e9
def skip_prod[?M]{k:Nat}:∀(n:Nat),k<=n->?l (λl=>?a2Q f) n=?f9*?VW
 | 0,h=>by
   have:k=0:=O9m
   subst this;simp[prodN]
 | n+1,h=>by
   by_cases e:k=n+1
   . subst e;rw[show n+1-?T=0 by omega];show ?l _ ?T=?CB*1
     have:∀m,m<=n+1->?l (λl=>f (if l<n+1 then l else l+1)) m=?bY:=by
      intro m
      induction m with
      | zero=>intro _;rfl
      | succ m ih =>
        intro hm;show ?wZ*f (if m<n+1 then m else m+1)=?bY*f m;rw[?lQ,?L]
     rw[?F _ ?i];omega
   . show ?l _ n*f (if n<k then n else n+1)=_;rw[?YN n ?c,?o,show n+1-k=?iV+1 by omega];show _=?f9*(?VW*f (k+1+?iV));rw[show k+1+?iV=n+1 by omega,qe0]
def CN(R:Mat)[?t](k:Nat):∀m,?kY=?l (λl=>R (k+1+l) (t (k+1+l))) m
 | 0=>rfl
 | m+1=>by
   show ?s5=?wZ*?iZ;rw[CN R t k m,qf1]
abbrev aT[?t](k c:Nat):?v
 | 0=>c
 | l+1=>?a2Q t
def Ae5[?nT][?j][?nV]{k c:Nat}(hk:k<i){D:Nat}(hD:?a3P ?r9 D):(?a3L ?BZ c).natAbs<=D:=by
 have hm:k+?BZ<i:=O9m
 have e1:=LB h (k:=k) (aT t k c) hm
 have hu0:∀l,l<i->l≠k->?a3L ?BZ ?u=0:=λl hl hne=>by
  rcases qg4 l k with z | z
  . exact dS h z hm
  . exact DR h hm O9m O9m
 obtain⟨n,rfl⟩:∃n,i=n+1:=?RH
 have e2:det ?T (B5 (?r9) k λl=>?a3L (n+1-1-k) (aT t k c l))=Ta k*?a3L (n+1-1-k) c*?l (λl=>R (if l<k then l else l+1) (?a2Q t)) n:=by
  show Aj (λj=>Ta j*B5 _ k _ j 0*?a7A (Ge (B5 _ k _) j)) ?T=_;rw[?a4 (j:=k) hk ?vG]
  . rw[Bn,Iv]
    congr 1
    apply Uf λr l hr hl=>?_;show R (if r<k then r else r+1) (?a2Q t)=0;apply ?eG ?bM ?_;split<;>split<;>omega
  . rw[T3 hne,Ue (p:=if k<j then k else k-1) ?bM ?s7]
    . simp
    . rw[Bn];show Rh R t k (n+1-1-k) (?a2Q t)=0;exact hu0 _ ?bM ?bM
 rw[e1]at e2;rw[?YN (f:=?pO) n ?c,←CN,?SN]at e2;rw[?SN];have pp:=pU h (k:=k) (m:=n-k) O9m;have qp:0<?PC:=Cd (?a7K ?kI);have e3:=?wH ?JE e2;rw[qb6,qb6,qb6,qb6,Xm,qf9]at e3;have p1:0<?fB:=O9m
 have q1:1<=?N8:=O9m
 have:?fB*?C1<=?fB*D:=by
  calc ?fB*?C1<=?C1*(?N8*?fB):=by
        rw[?RS ?fB];exact qf3 _ (qn1 _ q1)
   _=?fB*(det ?T ?r9).natAbs:=e3.symm
   _<=_:=qf3 _ hD
 exact qs8 ?F p1
def bI[?nT][?j][?nV]:?a7L ?l3=?lX:=Uf λr c hr hc=>?eG hr hc
def Yx[?M]:∀{n j:Nat},(?yE)->j<n->f j<=?g3
 | n+1,j,h,hj=>by
   have p:=Cd (n:=n) ?hZ;have q:=?vX;show f j<=?o5;by_cases e:j=n
   . subst e;have:1*f j<=?l f j*f j:=?p2;omega
   . have ih:=Yx (n:=n) (j:=j) (?hZ) O9m;have:?g3*1<=?o5:=?LD;omega
def vG[?nT][?j][?nV]{D:Nat}(hD:?a3P ?DA D){j:Nat}(hj:j<i):?aD<=D:=by
 rw[bI h]at hD;have a:=Yx (f:=?pO) (λk hk=>?BK) hj;have b:=Cd (f:=?pO) (n:=i) (λk hk=>?BK);omega
def Im.none{W i:Nat}{R:Mat}[?j][?a16](h0:∀j,j<i->?gK=0):∀c,c<W->v c=0:=by
 let ?X:=hv
 have x0:∀m,m<=i->∀j,j<m->x j=0:=by
  intro m
  induction m with
  | zero=>intro _ j hj;omega
  | succ m ih =>
    intro hm j hj;by_cases e:j<m
    . exact ih O9m j e
    have ej:j=m:=O9m
    subst ej;have e1:=hx ?K (?US);rw[h0 j ?c,?a4 (j:=j) ?c ?AC]at e1
    . rcases ?pG e1.symm with z | z
      . exact z
      . have:=?kI;omega
    . by_cases e2:k<j
      . rw[ih ?c k e2];simp
      . rw[?eG hk ?c];simp
 intro c hc;rw[?eL];exact ?R λk hk=>by rw[x0 i ?i k hk];simp
def In.sum{W i:Nat}{R:Mat}{a:?k}{U:Mat}:∀{m:Nat},(∀j,j<m->In W i R (U j))->In W i R (λc=>?wL)
 | 0,_=>?t4 W i R
 | m+1,h=>by
   have:=(?CK (a:=a) (U:=U) (m:=m) (?a7C h)).mix (h m O9m) 1 (a m)
   exact this.congr λc _=>by
    show 1*?wL+?l8=?wL+?l8;omega
def Sf[?a7]:∀(n k:Nat),k<n->?g3=?f9*(?wY*f k)
 | n+1,k,h=>by
   by_cases e:k=n
   . subst e;rw[show k+1-1-k=0 by omega];show ?f9*f k=?f9*(1*f k);rw[qd7]
   . show ?o5=_;rw[Sf f n k ?c,show n+1-1-k=?l2+1 by omega];show _=?f9*(?l _ ?l2*f (k+1+?l2)*f k);rw[show k+1+?l2=n by omega]
     grind
def As4[?M]:∀{n k:Nat},(∀l,l<n->0<f l)->k<n->?f9*f k<=?g3:=λ{n k} h hk=>by
 rw[Sf f n k hk];have a:=Cd (n:=k) λl hl=>h l O9m;have b:0<?wY:=Cd λl hl=>?p9;have c:=h k hk;have d:1*f k<=?wY*f k:=?p2;rw[qd7]at d;exact qj1 d O9m
def tW{W i:Nat}{R:Mat}[?j][?a16]{κ D c:Nat}(hc:c<W)(hκ:∀j,j<i->?Y1<=κ*?eB)
 (hD:∀k,k<i->?a3P ?r9 D):(v c).natAbs<=i*?wS:=by
 have hp:∀l,l<i->0<?kN l:=λl hl=>?W l hl;have EP:=Cd (n:=i) hp
 have key:?lX*v c=?BW:=by
  have hin:In W i R (λc=>?VD) :=
   hv.mix (?CK (a:=λj=>?gK*?lY) (U:=λj=>Rh R t j ?CP) λj hj=>RX h O9m) _ _
  have:=h.none ht hin (λm hm=>?_) c hc
  . show _=_;have t:?VD=0:=this;omega
  . show ?lX*v (t m)+?D*Aj (λj=>(?gK*?lY)*?FR) i=0;rw[?a4 (j:=m) hm ?vG]
    . rw[gO h ?c,CN,Sf ?kN i m hm]
      grind
    . have:?FR=0:=by
       rcases qg4 m j with z | z
       . exact dS h z O9m
       . exact DR h O9m O9m O9m
      ext cG
 have e:=?wH ?JE key;rw[qb6]at e
 have le:(?BW).natAbs<=i*(?w0*?wS):=by
  apply O7 ?aA;rw[qb6,qb6];have a1:=hκ j hj;have a2:=Ae5 h hj (hD j hj);have a3:=As4 hp hj;have a4:=Cd (n:=j) λl hl=>hp l O9m;have a5:=hp j hj
  have a6:?sP*?eB<=?w0:=by
   rw[←qb6];have:0<?lY*?aD:=qu1 a4 a5;omega
  calc ?Y1*?sP*(?FS).natAbs
   ≤ κ*?eB*?sP*D:=qf5 (qc0 _ a1) a2
   _=?sP*?eB*?wS:=?E
   _<=_:=qc0 _ a6
 rw[←e]at le;have E1:0<?w0:=O9m
 apply qs8 (qa5 le ?MG) E1
 grind
def In.trans{W n m:Nat}{R R':Mat}{v:?k}(hv:In W n R v)(h:∀j,j<n->In W m R' ?i3):In W m R' v:=by
 let ?X:=hv;exact(?CK (a:=x) (U:=R) h).congr λc hc=>(?eL).symm
abbrev OL(W n:Nat)(R R':Mat):Prop:=(∀j,j<n->In W n R (R' j))/\(∀j,j<n->In W n R' ?i3)
def OL.refl(W n:Nat)(R:Mat):?a5A R:=#[?I6,?I6]
def OL.trans{W n:Nat}{R S T:Mat}(h1:?a5A S)(h2:OL W n S T):?a5A T:=#[λj hj=>(h2.1 j hj).trans h1.1,λj hj=>(h1.2 j hj).trans h2.2]
abbrev Fk(n:Nat)(R R':Mat):Prop:=∀s:?v,(det n (?a5L R')).natAbs=(?a7A ?y8).natAbs
def Fk.refl(n:Nat)(R:Mat):Fk n R R:=λ_=>rfl
def Fk.trans{n:Nat}{R S T:Mat}(h1:Fk n R S)(h2:Fk n S T):Fk n R T:=λs=>(h2 s).trans (h1 s)
def Mt(R:Mat)[?EH](s:?v):(λr l=>B5 R p u r ?b9)=B5 ?tH p (λl=>u ?b9):=by
 funext r l
 unfold B5;split<;>rfl
abbrev addR[?h2](k:Int):Mat:=B5 R p ?X8
def Ck[?h2](k:Int)(c:Nat):?r R p q k p c=?XT:=Bn ..
def Dd[?uK]{k:Int}(h:?gV)(c:Nat):?r R p q k r c=?bU:=Bx h c
def vZ[?dU](R:Mat)[?b3](k:Int):Fk n R ?fV:=λs=>by
 unfold addR;rw[Mt];have:=VN ?tH hp hq ne k;rw[show(λl=>1*R p ?b9+?LF)=λl=>R p ?b9+?LF from ?aF λl=>?YV,this]
def VY{W n p q:Nat}(R:Mat)[?b3](k:Int):?a5A ?fV:=by
 ext u6
 . ext jT
   . subst e;exact(?x0 ?ZJ 1 k).congr λc _=>(Ck R j q k c).symm
   . exact ?mQ λc _=>(?wV).symm
 . ext jT
   . subst e;apply((?a4Q ?U5).mix (?J (R:=?U5) hq) 1 (-k)).congr ?FE;rw[Ck,Dd ?fZ];show 1*(1*?eU+k*R q c)+-k*R q c=?eU;rw[qo7];omega
   . exact(?a4Q ?TC).congr λc _=>?wV
abbrev Gv(R:Mat)(p:Nat):Mat:=B5 R p λc=>- ?cQ
def uT{n p:Nat}(R:Mat)[?dX]:Fk n R ?hG:=λs=>by
 unfold Gv;rw[Mt,vN ?tH hp,qc6]
def US{W n p:Nat}(R:Mat)[?dX]:?a5A ?hG:=by
 ext u6
 . ext jT
   . subst e;exact(?x0 (?lA) ?D 0).congr ?O6
   . exact ?mQ λc _=>(Bx e c).symm
 . ext jT
   . subst e;exact((?VT).mix (?VT) ?D 0).congr ?O6
   . exact(?J (R:=Gv R p) hj).congr λc _=>Bx e c
abbrev blendR[?h2][?eX]:Mat:=B5 (B5 R p ?VL) q ?NW
def Gq{R:Mat}{p q:Nat}(ne:?f4)[?eX](k:Nat):?a5F p=?SM:=by unfold blendR;rw[Bx ne,Bn]
def Iy[?h2][?eX](k:Nat):?a5F q=?KS:=by unfold blendR;rw[Bn]
def D6[?uK](h1:?gV)(h2:r≠q)[?eX](k:Nat):?a5F r=R r k:=by unfold blendR;rw[Bx h2,Bx h1]
def OD[?dU](R:Mat)[?b3][?uB]:Fk n R ?l4:=λs=>by
 unfold blendR;rw[Mt,Mt];rw[NH ?tH hp hq ne a b c d h]
def OC{W n p q:Nat}(R:Mat)[?b3][?uB]:?a5A ?l4:=by
 ext u6
 . ext jT
   . subst e;exact(?x0 ?ZJ a b).congr λk _=>(?PR).symm
   . by_cases e2:j=q
     . subst e2;exact((?J hp).mix (?lA) c d).congr λk _=>(Iy R p j a b c d k).symm
     . exact ?mQ λk _=>(?PA).symm
 . ext jT
   . subst e;apply((?a4Q ?NO).mix (?J (R:=?NO) hq) d (-b)).congr ?x3;ext a15
     grind
   . by_cases e2:j=q
     . subst e2;apply((?J (R:=?GB) hp).mix (?a4Q ?GB) (-c) a).congr ?x3;ext a15
       grind
     . exact(?a4Q ?TK).congr λk _=>?PA
abbrev moveR(R:Mat)(i s:Nat):Mat:=λr c=>if r<s then ?bU else if r=s then ?fH else if ?cB then R ?i6 c else ?bU
def FW{n:Nat}:∀(d:Nat) (R:Mat) {i s:Nat},i<n->i=s+d->Fk n R ?iF
 | 0,R,i,s,hi,e=>by
   have:?mT=R:=by
    funext r c
    ext cJ;by_cases e1:r<s
    . rw[?hC]
    . rw[?aU];by_cases e2:r=s
      . rw[?hL,e2,?EO]
      . ext DY
   rw[this];exact Fk.refl n R
 | d+1,R,i,s,hi,e=>by
   obtain⟨j,rfl⟩:∃j,i=j+1:=?RH
   have h1:Fk n R (?a3S R):=λt=>by
    rw[Mt,Mt,bO ?c,qc6]
    rw[show B5 (B5 ?l3 j ?WH) ?a2 (λl=>R ?a2 ?u)=?DA from by
     have:=Hd ?l3 j;rw[show(?WH)=?l3 j from rfl,this];exact Hd ?l3 ?a2]
   have h2:=FW (n:=n) d (?a3S R) (i:=j) (s:=s) O9m O9m
   have e3:?P (?a3S R) j s=?P R ?a2 s:=by
    funext r c
    ext cJ;by_cases e1:r<s
    . rw[?hC,?hC,?hP,?hP]
    . rw[?aU,?aU];by_cases e2:r=s
      . rw[?hL,?hL,Bx (show j≠j+1 by omega),Bn]
      . rw[?fY,?fY];by_cases e4:?aN
        . rw[?m e4,?m (show r<=j+1 by omega),Bx (show r-1≠j+1 by omega),Bx (show r-1≠j by omega)]
        . rw[?v3];by_cases e5:r=j+1
          . subst e5;rw[Bn,?L];rfl
          . rw[?f (show ¬r<=j+1 by omega),Bx e5,Bx (?a2L r j)]
   rw[e3]at h2;exact ?OK h2
def QJ{W n:Nat}(R:Mat){i s:Nat}[?h1]:?a5A ?iF:=by
 ext u6
 . by_cases e1:j<s
   . exact ?mQ ?KO
   . by_cases e2:j=s
     . exact(?J hi).congr λc _=>by ext cJ;rw[?aU,?hL]
     . by_cases e3:?bT
       . exact(?J (R:=R) (j:=j-1) O9m).congr λc _=>by ext cJ;rw[?aU,?fY,?zW]
       . exact ?mQ λc _=>by ext cJ;rw[?aU,?fY,?vW]
 . by_cases e1:j<s
   . exact ?OW ?KO
   . by_cases e2:j=i
     . exact(?J (R:=?mT) (j:=s) O9m).congr λc _=>by ext cJ;rw[?o,?q,e2]
     . by_cases e3:j<i
       . exact(?J (R:=?mT) (j:=j+1) O9m).congr λc _=>by ext cJ;rw[?o,?o,?L];rfl
       . exact ?OW λc _=>by ext cJ;ext DI
def sumN_pair{f g:?k}[?dU][?b3](h:∀k,k<n->k≠p->k≠q->f k=g k)(e:f p+f q=g p+g q):?e9=Aj g n:=by
 have z:?IZ=(f p-g p)+(f q-g q):=by
  have e1:?IZ=Aj (λk=>(if k=p then 1 else 0)*(f p-g p)+(if k=q then 1 else 0)*(f q-g q)) n:=by
   apply ?A1;by_cases e1:k=p
   . subst e1;rw[?q,?mA];omega
   . rw[?aU];by_cases e2:k=q
     . subst e2;rw[?q];omega
     . rw[?fY,h k hk e1 e2];omega
  rw[e1,Cf,Cu (λ_=>f p-g p) p n,?m hp,Cu (λ_=>f q-g q) q n,?m hq]
 rw[Cf,Ba]at z;omega
abbrev pT(n:Nat)(B R:Mat)(a b:Nat):Int:=?KM
def iF[?dU](B R:Mat)[?b3](k:Int)(a b:Nat):?a61 (?r B q p (-k)) ?fV:=by
 apply ?vZ hp hq ne (λj _ h1 h2=>by rw[Dd h2,Dd h1]) ?_;rw[Dd (r:=p) (p:=q) ne,Ck R p q k,Ck B q p (-k),Dd ?fZ]
 grind
def ZF{n p:Nat}(B R:Mat)(a b:Nat):?a61 (Gv B p) ?hG:=by
 apply ?z6;by_cases e:k=p
 . subst e;unfold Gv;rw[Bn,Bn,Int.neg_mul_neg]
 . unfold Gv;rw[?g4,?g4]
def fG[?dU](B R:Mat)[?b3][?uB](x y:Nat):pT n (?a77 a) ?l4 x y=pT n B R x y:=by
 apply ?vZ hp hq ne (λj _ h1 h2=>by rw[?Z5,?Z5]) ?_;rw[?dN,?dN,Iy,Iy];have e1:?PY=(a*d-b*c)*(?PY):=?B7
 have e2:?PM=(a*d-b*c)*(?PM):=?B7
 grind
def AL[?a7]:∀(d:Nat) {n i s:Nat},i<n->i=s+d->Aj (λr=>if r<s then f r else if r=s then f i else if ?cB then f ?i6 else f r) n=?e9
 | 0,n,i,s,hi,e=>Ai λr _=>by
   by_cases e1:r<s
   . rw[?hC]
   . rw[?aU];by_cases e2:r=s
     . rw[?hL,e2,?EO]
     . ext DY
 | d+1,n,i,s,hi,e=>by
   rw[←AL f d (n:=n) (i:=i) (s:=s+1) hi ?c];apply ?vZ (p:=s) (q:=s+1) O9m O9m O9m (λr _ h1 h2=>?_) ?_
   . by_cases e1:r<s
     . rw[?hC,?L]
     . rw[?aU,?gP,?f (show ¬r<s+1 by omega),?f8]
   . rw[?o,?q,?o,?o,?L,?L,?o,?q];show f i+f (s+1-1)=f s+f i;rw[show s+1-1=s by omega];omega
def UM{n:Nat}(B R:Mat){i s:Nat}[?h1](a b:Nat):?a61 (?P B i s) ?iF:=by
 show Aj (λk=>?P B i s k a*?P R i s k b) n=?KM;rw[←AL (λk=>B k a*R k b) (i-s) (n:=n) (i:=i) (s:=s) hi ?c];apply Ai λr _=>?_;ext cJ;split
 . rfl
 . split
   . rfl
   . split<;>rfl
abbrev pD[?V][?U][?f0]:Int:=Aj (λc=>?DC*B j c) n
abbrev Fn[?V][?U]:Prop:=∀i j,i<n->j<n->?U8=?sY
abbrev dot[?V][?nS]:Int:=Aj (λc=>u ?pE*v c) n
def D5[?V](u v x:?k)(a b:Int):?a6U ?nX x=a*?a6U u x+b*?a6U v x:=by
 unfold dot;ext jK;exact Ai λc _=>by rw[qr9,qe0,qe0]
def Gh[?V](u x y:?k)(a b:Int):?a6U u (λc=>a*x c+b*y c)=a*?a6U u x+b*?a6U u y:=by
 unfold dot;ext jK;exact Ai λc _=>?E
def Y3[?V][?U][?f0]:?U8=?JG:=rfl
def Ni[?h2](k:Int):?r R p q k p=?X8:=?aF λc=>Ck ..
def addR_row_ne[?uK]{k:Int}(h:?gV):?r R p q k r=R r:=?aF λc=>Dd h c
def blend_row_p{R:Mat}{p q:Nat}(ne:?f4)[?eX]:?a5V ?C p=?VL:=?aF λk=>?PR
def blend_row_q[?h2][?eX]:?a5V ?C q=?NW:=?aF λk=>?a5V Iy k
def blend_row_ne[?uK](h1:?gV)(h2:r≠q)[?eX]:?a5V ?C r=R r:=?aF λk=>D6 h1 h2 a b c d k
def Fn.add{n w p q:Nat}[?nH][?b3](k:Int):?a4R ?fV (?r B q p (-k)):=λi j hi hj=>by
 ext DG
 rw[Y3];by_cases e1:i=p
 . subst e1;rw[Ni];by_cases e2:j=q
   . subst e2;rw[Ni,Gh,D5,D5,?b7,?EQ,?v4,?O1];rw[?mA,?q,?q,?f ?fZ];omega
   . rw[?gG e2,D5,?b7,?YU,show ?a2M q j from ?pJ];omega
 . rw[?gG e1];by_cases e2:j=q
   . subst e2;rw[Ni,Gh,?b7,?J9,?PF];omega
   . rw[?gG e2];exact ?b7
def Fn.neg{n w p:Nat}[?nH][?dX]:?a4R ?hG (Gv B p):=λi j hi hj=>by
 ext DG
 have s1:∀(R:Mat),Gv R p p=λc=>-1*?cQ+0*?cQ:=λR=>?aF λc=>?M9
 have s2:∀(R:Mat) {r:Nat},?gV->Gv R p r=R r:=λR r hr=>?aF λc=>Bx hr c;rw[Y3];by_cases e1:i=p
 . subst e1;by_cases e2:j=i
   . subst e2;rw[s1,s1,Gh,D5,?CS];rw[?q];omega
   . rw[s1,s2 B e2,D5,?b7,?pJ];omega
 . by_cases e2:j=p
   . subst e2;rw[s1,s2 R e1,Gh,?b7,?aU];omega
   . rw[s2 R e1,s2 B e2];exact ?b7
def Fn.blend{n w p q:Nat}[?nH][?b3]{a b c d:Int}(h1:a*d-b*c=1):?a4R ?l4 (?a77 a):=λi j hi hj=>by
 ext DG
 have ne':q≠p:=?B2;rw[Y3];by_cases e1:i=p
 . subst e1;rw[?mH];by_cases e2:j=i
   . subst e2;rw[?mH,Gh,D5,D5,?CS,D q j hq hi,D j q hi hq,D q q hq hq]
     ext tW
     grind
   . by_cases e3:j=q
     . subst e3;rw[blend_row_q,Gh,D5,D5,?v4,D j i hq hi,D i j hi hq,D j j hq hq]
       ext tW
       grind
     . rw[?C2,D5,?b7,?YU,show ?oV from ?pJ,show ?a2M q j from ?a7D e3];omega
 . by_cases e4:i=q
   . subst e4;rw[blend_row_q];by_cases e2:j=p
     . subst e2;rw[?mH,Gh,D5,D5,?EQ,?b7,?O1,?v4]
       ext tW
       grind
     . by_cases e3:j=i
       . subst e3;rw[blend_row_q,Gh,D5,D5,D p p hp hp,D j p hi hp,D p j hp hi,?CS]
         ext tW
         grind
       . rw[?C2,D5,D p j hp hj,?b7,show ?a2M p j from ?pJ,show ?oV from ?a7D e3];omega
   . rw[?w7 e1 e4];by_cases e2:j=p
     . subst e2;rw[?mH,Gh,?b7,D i q hi hq,show ?oV from ?aU,show ?a2M i q from ?v3];omega
     . by_cases e3:j=q
       . subst e3;rw[blend_row_q,Gh,?J9,?b7,?PF,show ?oV from ?v3];omega
       . rw[?C2];exact ?b7
abbrev mvI(i s r:Nat):Nat:=if r<s then r else if r=s then i else if ?cB then r-1 else r
def move_row(R:Mat)(i s r:Nat):?P R i s r=R (?yJ):=by
 funext c
 unfold moveR mvI;split
 . rfl
 . split
   . rfl
   . split<;>rfl
def Fn.move{n w i s:Nat}[?nH][?h1]:?a4R ?iF (?P B i s):=λx y hx hy=>by
 rw[Y3,move_row,move_row];have l:∀r,r<n->?yJ<n:=λr hr=>?z1
 have:=h _ _ (l x hx) (l y hy);rw[Y3]at this;rw[this]
 have inj:(mvI i s x=mvI i s y)↔x=y:=by
  constructor
  . intro e;unfold mvI at e;by_cases a1:x<s<;>by_cases a2:x=s<;>by_cases a3:x<=i<;>by_cases b1:y<s<;>by_cases b2:y=s<;>by_cases b3:y<=i<;>simp only[a1,a2,a3,b1,b2,b3,if_true,if_false]at e<;>first | omega | (subst_vars;simp_all;try omega)
  . intro e;rw[e]
 by_cases e:x=y
 . rw[?c6,?m (inj.mpr e)]
 . rw[?cC,?f λz=>e (inj.mp z)]
structure Good(n W w lo:Nat)(R B R' B':Mat):Prop where
 eqv:∀m,lo<=m->OL W m R R'
 det:∀m,lo<=m->Fk m R R'
 pt:∀a b,?a61 B' R'
 dual:?PH->?a4R R' B'
 rest:∀r c,lo<=r->?QZ
 restB:∀r c,lo<=r->B' r c=B r c
def Good.refl(n W w lo:Nat)[?U]:?a2U R B:=#[λm _=>OL.refl W m R,λm _=>Fk.refl m R,?e7,id,?hS,?hS]
def Good.trans[?uR]{R B R' B' S C:Mat}(h1:?v9)(h2:?aZ n W w lo R' B' S C):?a2U S C :=
 #[?a6R h1.eqv h2.eqv,?a6R h1.det h2.det,λa b=>(h2.pt a b).trans (h1.pt a b),λd=>h2.dual (h1.dual d),?a5M h2.rest h1.rest,?a5M h2.restB h1.restB]
def Good.mono{n W w lo lo':Nat}[?uM](h:?v9)(hl:lo<=lo'):?aZ n W w lo' R B R' B':=#[?a6S h.eqv m,?a6S h.det m,h.pt,h.dual,λr c hr=>h.rest r c O9m,λr c hr=>h.restB r c O9m]
def Good.add{n W w lo p q:Nat}[?U][?a1Z](k:Int):?a2U ?fV (?r B q p (-k)) :=
 #[?a3K VY k,?a3K vZ k,λa b=>iF B R O9m O9m ne k a b,λd=>d.add O9m O9m ne k,?N2,?N2]
def Good.neg{n W w lo p:Nat}[?U](hp:p<lo)(hn:?nY):?a2U ?hG (Gv B p) :=
 #[?a6S US R,?a6S uT R,λa b=>ZF B R a b,λd=>d.neg O9m,?F4,?F4]
def Good.blend{n W w lo p q:Nat}[?U][?a1Z][?uB]:?a2U ?l4 (?a77 a) :=
 #[?a3K OC h,?a3K OD h,λx y=>fG B R O9m O9m ne h x y,λe=>e.blend O9m O9m ne h,?JT,?JT]
def Good.move{n W w lo i s:Nat}[?U](hi:i<lo)(hs:s<=i)(hn:?nY):?a2U ?iF (?P B i s) :=
 #[λm hm=>QJ R O9m hs,λm hm=>FW (i-s) R O9m O9m,λa b=>UM B R O9m hs a b,λd=>d.move O9m hs,λr c hr=>by
  ext jI;ext DI,λr c hr=>by
  ext jI;ext DI]
def Fn.row{n w i:Nat}[?nH][?d6]:∃c,c<n/\?DC≠0:=by
 apply qg8 ?eS;have e:=h i i hi hi;rw[?q]at e;unfold pD at e;rw[?R ?dB]at e
 . cases e
 . have:?DC=0:=qg8 λy=>z #[c,hc,y];ext cG
def KW{x h:Int}{K:Nat}(hh:0<h)(hx:x.natAbs<=K*h.natAbs):?NB<=K:=by
 have e:(h.natAbs:Int)=h:=O9m
 have hx':(x.natAbs:Int)<=?sW*h:=by rw[←e];exact_mod_cast hx
 have u1:x / h<=?sW:=by
  have:x<=?sW*h:=O9m
  exact Int.ediv_le_of_le_mul hh ?F
 have u2:-?sW<=x / h:=by
  apply(Int.le_ediv_iff_mul_le hh).mpr ?_;rw[qo7];omega
 omega
structure Part(R:Mat)[?t](f m:Nat):Prop where
 inc:∀j k,?fR->j<k->k<m->?q0
 zero:∀j c,?fR->j<m->?DE
 pos:∀j,?fR->j<m->?lL
 red:∀k j,f<=k->k<j->j<m->?B9
structure oK(n W w lo:Nat)[?U][?t](p f m j μ:Nat)(R' B':Mat):Prop where
 good:?v9
 same:?RG
 left:∀c,(∀l,f<=l->l<m->c<t l)->?n0=?cQ
 red:∀l,f<=l->l<j->?IQ
 rel:∀l,j<=l->l<m->?a3G ?fL ?pY
 ins:∀W',∃v:?k,In W' lo R v/\∀c,?n0=?cQ+v c
def oK.start[?uR][?d5][?j]{p f m μ:Nat}[?a14]:oK n W w lo R B t p f m f μ R B :=
 #[?r6,?hS,?e7,λl h1 h2=>O9m,λl h1 h2=>by rw[qh2,qy2,qf9];exact h l h1 h2,λW'=>#[?fE,?t4 W' lo R,λc=>by show ?cQ=?cQ+0;omega]]
def bU[?h2]:?r R p q 0=R:=by
 funext r c
 ext jU
 . subst e;rw[Ck];omega
 . exact ?wV
def oK.step[?uR][?uM][?j]{p f m j μ:Nat}(h:oK n W w lo R B t p f m j μ R' B')(P:?o9)(hf:?fR)(hj:j<m)[?a1U] :
 ?RZ<=2 ^ (j-f)*μ/\oK n W w lo R B t p f m ?a2 μ (?r R' p j (-(?fX))) (?r B' j p (?fX)):=by
 have hh:=P.pos j hf hj;have ne:p≠j:=O9m
 have q1:=KW hh (h.rel j ?i hj);apply#[q1,?_];generalize hq:?fX=q at q1;have rj:∀c,?LP:=λc=>h.same j c ?fZ;apply#[?rC ?_,?FW,?dB,?j6,?j6,λW'=>?_]
 . have:=?GI (n:=n) (W:=W) (w:=w) (lo:=lo) R' B' hp (show j<lo by omega) hn ne ?dZ;rw[qo6]at this;ext aQ
 . rw[Dd hr];exact h.same r c hr
 . rw[Ck,h.left c hc,rj,?CN j c hf hj (hc j hf hj)];simp
 . rw[Ck,rj];by_cases e:l=j
   . subst e;have d1:=qr8 (?fL) (?a2L ?gT 0);have d2:=qp5 (?fL) hh;have d3:=Int.mul_ediv_add_emod (?fL) (?gT);rw[hq]at d3;have d4:?gT*q=q*?gT:=?vC;rw[qo7];omega
   . have z:?hT=0:=?CN j _ hf hj (P.inc l j h1 O9m hj);rw[z,qc7,ql3,qd7];exact ?hF l h1 O9m
 . rw[Ck,rj];have a:=?a5G h.rel;let ?IJ:=P.red j l hf O9m h2;have b:?a3G ?hT ?eF:=O9m
   have c:=qf4 (1*?fL) (-q*?hT);rw[qd7]at c;rw[qd7]
   have d:(-q*?hT).natAbs<=?pY:=by
    rw[qb6,qc6];exact qf5 q1 b
   rw[show j+1-f=(j-f)+1 by omega,qh9];have e:2 ^ (j-f)*2*μ*?eF=?pY+?pY:=?E
   omega
 . let#[v,hv,hc]:=h.ins W';apply#[λc=>1*v c+?dZ*?eU,hv.mix ?GC 1 ?dZ,λc=>?_];rw[Ck,hc c,rj]
   grind
abbrev Bits(n W b:Nat)(R:Mat):Prop:=∀r c,r<n->c<W->?iW<?z
def gS{x y a k:Int}{b c:Nat}(hx:x.natAbs<?z)(hy:y.natAbs<?z)(ha:a.natAbs<?A)(hk:?YD):?T8<2 ^ (b+c+1):=by
 have e:=?XB;rw[qb6,qb6]at e;have u:a.natAbs*x.natAbs<?sA:=?a4Z ha hx
 have v:k.natAbs*y.natAbs<?sA:=?a4Z hk hy
 rw[?CQ,qh9];omega
def Bits.mono{n W b b':Nat}[?nI](hb:b<=b'):?a5Z b' R:=?JX
def Bits.add{n W b c p q:Nat}[?nI][?dX][?DZ]:?a5Z (b+c+1) ?fV:=λr x hr hx=>by
 ext jU
 . subst e;rw[Ck]
   have h1:(1:Int).natAbs<2 ^ ?aW:=by
    have:1<=?A:=qm0;rw[qh9];show 1<_;omega
   have e1:=qf4 (1*?lJ) (k*R q x);rw[qd7,qb6]at e1;rw[qd7];have u:k.natAbs*(R q x).natAbs<?sA:=?a4Z hk (h q x hq hx)
   have v:?H2<?sA:=?WB;rw[?CQ,qh9];omega
 . rw[Dd e];exact ?WB
def Bits.blend{n W b e p q:Nat}[?nI][?b3][?a0G]:?a5Z (b+e+1) (?C R p q x y z u):=λr c hr hc=>by
 by_cases e1:r=p
 . subst e1;rw[?dN];exact gS ?iB (h q c hq hc) hx hy
 . by_cases e2:r=q
   . subst e2;rw[Iy];exact gS (h p c hp hc) ?iB hz hu
   . rw[?HW];exact qb7 ?iB (?t9)
def Bits.neg{n W b p:Nat}[?nI]:?a5Z b ?hG:=λr c hr hc=>by
 unfold Gv;ext jU
 . subst e;rw[Bn,qc6];exact ?rR
 . rw[?g4];exact ?rR
def Bits.move{n W b i s:Nat}[?nI][?h1]:?a5Z b ?iF:=λr c hr hc=>by
 rw[move_row];exact h _ c (?z1) hc
structure Ds[?jH](R0 B0:Mat)[?t](π b:Nat)(spot:Nat)[?U]:Prop where
 good:?vK
 zero:?QT
 pos:?L2
 old:∀j c,spot<=j->j<i->?eU=R0 j c
 pass:∀j c,?lU->c<=t j->?iQ
 pv:∀l,spot<=l->l<i->(R i ?u).natAbs<=?H
 gc:∀r c,?cB->G c->?iW<=2 ^ (?rG)
structure Js[?jH](R0 B0:Mat)[?t](π b:Nat):Prop where
 hi:i<n
 part:?eQ R0 t 0 i
 lt:?xU
 hd:?a76 ?K4 ?H
 rw:∀r c,r<i->G c->?a3G ?AL ?z
 ri:∀c,G c->(R0 i c).natAbs<=?z
 rp:∀l,l<i->(R0 i ?u).natAbs<=?H
def Part.sub{R:Mat}[?j]{f f' m:Nat}(h:?o9)(hf:f<=f'):?eQ R t f' m:=#[λj k h1=>?cZ j k O9m,λj c h1=>?aX j c O9m,λj h1=>?kI,λk j h1=>?hF k j O9m]
def Part.congr{R R':Mat}[?j]{f m:Nat}(h:?o9)(e:∀j c,?fR->j<m->?LP):?eQ R' t f m :=
 #[?cZ,λj c h1 h2 h3=>by rw[e j c h1 h2];exact ?TI,λj h1 h2=>by rw[e j _ h1 h2];exact ?W j h1 h2,λk j h1 h2 h3=>by rw[e k _ h1 ?c,e j _ ?c h3];exact ?XF]
def Ds.start[?a5]{R0 B0:Mat}[?j]{π b:Nat}(h:?xT):Ds n W w i G R0 B0 t π b 0 R0 B0:=by
 apply#[?r6,λj c hj hc=>h.part.zero j c ?aL hj hc,λj hj=>h.part.pos j ?aL hj,?yH,?qA,λl _ hl=>h.rp l hl,?eN];have e:?z<=2 ^ (?jC+0*?hJ):=?t9;by_cases z:r=i
 . subst z;exact qa5 (h.ri c hc) e
 . exact qa5 (?a6Q h.rw r) e
def Ds.skip[?a5][?eW][?j][?nQ](h:?wM)(hz:∀c,?iL->?iQ):?a3M R B:=by
 apply#[h.good,?aX,?W,λj c hj=>?c5 j c O9m,?gN,λl hl=>h.pv l O9m,λr c hr hc=>qa5 (?zO) (qf6 ?aE ?_)]
 . ext nM
   . subst e;exact hz c hc
   . exact ?a6Q h.pass j
 . rw[qg0];omega
structure i9[?jH][?U][?t](b p spot μ:Nat)(R' B':Mat):Prop where
 good:?aZ n W w ?g R B R' B'
 same:?RG
 left:∀c,?iL->?n0=?cQ
 red:∀l,?e3->l<i->?IQ
 gc:∀c,G c->?MO<=?LE+2 ^ ?b2*μ*?z
structure AH[?jH][?U][?t](b p spot μ j:Nat)(R' B':Mat):Prop where
 s:oK n W w ?g R B t p ?s i j μ R' B'
 gc:∀c,G c->?MO+μ*?z<=?LE+?C4
def AH.start[?a5][?d5][?j][?EK][?DL]:AH n W w i G R B t b p ?d μ ?s R B :=
 #[?O4 ?F8,λc _=>by rw[qh2,qy2,qf9];ext dV]
def AH.step[?a5][?uM][?j]{b p spot μ j:Nat}(h:?a54 j)[?ED][?DQ](hf:spot<j)(hj:j<i)[?E9] :
 ?RZ<=?w3/\AH n W w i G R B t b p ?d μ ?a2 (?r R' p j (-(?fX))) (?r B' j p (?fX)):=by
 let#[q,s]:=h.s.step P O9m hj O9m O9m O9m O9m;apply#[qa5 q (qc0 _ (?t9)),s,?dB];have ne:p≠j:=O9m
 rw[Ck,?X6 j c ?fZ];have a:=?P5;have e:=qf4 (1*?n0) (-(?fX)*?eU);rw[qd7,qb6,qc6]at e;rw[qd7];have m:=qf5 q (hG j c hf hj hc);rw[show j+1-?s=(j-?s)+1 by omega,qh9];have z:2 ^ (j-?s)*2*μ*?z=?C4+?C4:=?E
 omega
def AH.done[?a5][?uM][?j][?EK](h:?a54 i)(P:?xA):i9 n W w i G R B t b p ?d μ R' B' :=
 #[h.s.good,?X6,λc hc=>h.s.left c λl h1 h2=>by have:=?a5G P;omega,λl h1 h2=>?a5G h.s.red,λc hc=>by have:=?P5;omega]
def Dg{a b:Nat}(h:a<=b):2 ^ a<=?z:=qf6 ?aE h
def uW{x y a b:Nat}(hx:x<=2 ^ a)(hy:y<=?z):x*y<=2 ^ (a+b):=by rw[qe8];exact qf5 hx hy
def Ds.addPre[?a5][?eW][?j][?nQ][?eV][?eZ]{q:Int}(hq:?AX) :
 ∀l,?e3->l<i->(?r R i ?d ?dZ i ?u).natAbs<=?mC*(?r R i ?d ?dZ l ?u).natAbs:=λl h1 h2=>by
 rw[Ck,Dd (?a2L l i)];ext ZX;have a:=?zI;have e:=qf4 (1*R i ?u) (-q*?UR);rw[qd7,qb6,qc6]at e;rw[qd7];have m:q.natAbs*?VU<=?sF:=qf5 hq O9m;have m2:?H*1<=?sF:=?C3;rw[qh9];have z:?H*2*?eF=?sF+?sF:=?E
 omega
def Ds.metAdd[?a5]{R0 B0 R B R2 B2:Mat}[?j][?nQ][?eV][?eZ]{q:Int}(hq:?AX)[?u9][?a24]
 (S:i9 n W w i G (?G8) (?YL) t b i ?d (?mC) R2 B2):?a3M R2 B2:=by
 have ne:i≠spot:=O9m
 have keep:∀r c,?oF->R2 r c=?bU:=λr c hr=>by rw[?j5 r c hr,Dd hr]
 apply#[?_,λj c hj hc=>by rw[?YP];exact ?SD,λj hj=>by rw[?e5 j _ ?c];exact ?sI,λj c hj hji=>by rw[?YP];exact ?XG,?gN,?j6,?eN]
 . have g:=?GI (n:=n) (W:=W) (w:=w) (lo:=i+1) R B (?a3X i) (?a3X spot) ?c4 ne ?dZ;rw[qo6]at g;exact ?EV S.good
 . have ts:?iL:=by
    ext nM
    . rw[←e];exact hc
    . ext a1L
   rw[S.left c ts,Ck];by_cases e:c=?dO
   . rw[e,he,qd7,qo7];omega
   . rw[?MQ,?aX ?d c hs ?c];simp
 . let#[a,c]:=?a5G S.red;rw[Dd (?a2L l i)]at c;ext a0W
 . ext a0A
   rw[zb];generalize hz2:?rG=z;have hzb:?jC<=z:=?P2
   by_cases e:r=i
   . subst e;have a:=S.gc c hc;have g:=?iK r c ?i hc;rw[hz2]at g;have rs:?G6:=?X4
     have e1:=qf4 (1*?bU) (-q*?i8);rw[qd7,qb6,qc6]at e1;rw[Ck,qd7]at a;have m1:=uW hq rs
     have m2:2 ^ (r-?s)*?mC*?z<=?y2:=by
      ext a1C
     have m3:?OB<=?y2:=?D4;have m4:4*?y2=2 ^ z:=?a42 z z
     have m5:2*2 ^ z<=2 ^ (z+π+1):=by rw[show z+π+1=1+(z+π) by omega,qe8];exact qf5 ?aE ?c2
     omega
   . rw[?e5 r c e];have g:=?zO;rw[hz2]at g;exact qa5 g ?c2
structure lN(π:Nat)(h0 o0 x y z u:Int):Prop where
 one:x*u-y*z=1
 hd:0<x*h0+y*o0
 ot:z*h0+u*o0=0
 lx:?zQ
 ly:?BL
 lz:z.natAbs<=?H
 lu:u.natAbs<=?H
def kM{x y a c:Int}{π h:Nat}(hx:?zQ)(hy:?BL)(ha:a.natAbs<=h)(hc:c.natAbs<=?H)(h1:1<=h):(x*a+y*c).natAbs<=?b4*h:=by
 have e:=qf4 (x*a) (y*c);rw[qb6,qb6]at e;have m1:x.natAbs*a.natAbs<=?pZ:=qf5 (qa5 hx ?c2) ha;have m2:y.natAbs*c.natAbs<=?pZ:=qa5 (uW hy hc) (by rw[show π+π=2*π by omega];exact qi3 _ h1);rw[qh9];have z:?O9*2*h=?pZ+?pZ:=?E
 omega
def Ds.blendPre[?a5][?eW][?j][?nQ][?eV][?eZ][?DM] :
 (?a2S ?d)/\(?a2S i):=by
 have ne:?BU:=O9m
 have base:∀l,?e3->l<i->?VU<=?eF/\1<=?eF:=λl h1 h2=>by
  ext ZX;omega
 apply#[?j6,?j6]
 . rw[?dN,?yM];exact kM e.lx e.ly (?qW).1 (?zI) (?qW).2
 . rw[Iy,?yM];exact kM e.lz e.lu (?qW).1 (?zI) (?qW).2
def Ds.metBlend[?a5]{R0 B0 R B R2 B2 R3 B3:Mat}[?j][?nQ][?eV][?eZ][?DM][?u9]
 (S1:i9 n W w i G (?CM) (?C B ?d i u (-z) (-y) x) t b ?d ?d (?b4) R2 B2) (S2:i9 n W w i G R2 B2 t b i ?d (?b4) R3 B3):?a3M R3 B3:=by
 have ne:?BU:=O9m
 have keep:∀r c,?oF->?M5->R3 r c=?bU:=λr c h1 h2=>by rw[S2.same r c h1,?m7 r c h2,D6 h2 h1]
 have rs:∀c,R3 ?d c=R2 ?d c:=λc=>S2.same ?d c ne;have r2i:∀c,R2 i c=z*?i8+u*?fH:=λc=>by rw[?m7 i c (λw=>ne w.symm),Iy]
 have gz:∀c,c<?dO->?i8=0:=λc hc=>?aX ?d c hs hc;apply#[?_,?gN,?aA,λj c hj hji=>by rw[?e5 j c ?c ?c];exact ?XG,?gN,?j6,?eN]
 . have g:=Good.blend (n:=n) (W:=W) (w:=w) (lo:=i+1) R B (?a3X spot) (?a3X i) ?c4 ne e.one;exact(?EV S1.good).trans S2.good
 . by_cases e1:?hX
   . subst e1;rw[rs,S1.left c ?c,?dN,gz c hc,hz c hc];simp
   . rw[?e5 j c ?c e1];exact ?SD
 . by_cases e1:?hX
   . subst e1;rw[rs,S1.left _ ?i,?dN];exact e.hd
   . rw[?e5 j _ ?c e1];exact ?sI
 . have ts:?iL:=by
    by_cases e1:?hX
    . rw[←e1];exact hc
    . ext a1L
   rw[S2.left c ts,r2i];by_cases e1:c=?dO
   . rw[e1];exact e.ot
   . rw[?MQ,gz c ?c];simp
 . let#[a,c]:=?a5G S2.red;rw[?OF,?yM]at c;ext a0W
 . ext a0A
   rw[zb];have g0:=?a6Q ?iK ?d;have gi:=?iK i c ?i hc;have gr:=?zO;generalize hz2:?rG=zz at g0 gi gr;have hzb:?jC<=zz:=?P2
   have rsb:?G6:=?X4
   have bnd:∀{x y:Int},?zQ->?BL->(x*?i8+y*?fH).natAbs+2 ^ ?b2*?b4*?z<=2 ^ (zz+π+1):=λ{x y} hx hy=>by
    have e1:=qf4 (x*?i8) (y*?fH);rw[qb6,qb6]at e1;have m1:=uW hx rsb;have m2:=uW hy gi
    have m3:2 ^ ?b2*?b4*?z<=?CC:=by
     ext a1C
    have m4:?OB<=?CC:=?D4;have m5:4*?CC=2 ^ zz:=?a42 zz zz
    have m6:2 ^ zz<=2 ^ (π+zz):=?fQ;have m7:2 ^ (zz+π+1)=2*2 ^ (π+zz):=by rw[show zz+π+1=1+(π+zz) by omega,qe8,Nat.pow_one]
    omega
   by_cases e1:r=i
   . subst e1;have a:=S2.gc c hc;rw[r2i]at a;exact qa5 a (bnd e.lz e.lu)
   . by_cases e2:?A8
     . subst e2;have a:=S1.gc c hc;rw[?dN]at a;rw[rs];exact qa5 a (bnd e.lx e.ly)
     . rw[?e5 r c e1 e2];exact qa5 gr ?c2
abbrev insT[?t](s st:Nat):?v:=λr=>if r<s then t r else if r=s then st else t ?i6
structure WE[?jH](R0 B0:Mat)(t1:?v)(Y:Nat)[?U]:Prop where
 good:?vK
 s0:Im ?g R t1
 lt:∀j,?bT->t1 j<W
 pg:∀j,?bT->G (t1 j)
 gc:∀r c,?cB->G c->?iW<=?oX
def Ds.ins[?a5][?eW][?j]{π b spot st:Nat}[?eV][?a01] :
 WE n W w i G R0 B0 ?aY ?eD (?GZ) (?T4):=by
 have row:∀c,?IN=?fH:=λc=>by ext jI;ext u1
 have lo:∀r c,r<spot->?qO=?bU:=λr c hr=>by ext jI;rw[?AT]
 have up:∀r c,?iO->?cB->?qO=R ?i6 c:=λr c hr hi=>by ext jI;rw[?o,?o,?rQ]
 have gm:?aZ n W w ?g R0 B0 ?s1 (?yQ):=?rC (Good.move R B O9m hs ?c4)
 have tl:∀j,?lU->t j<st:=λj hj=>by
  apply qk1 λz=>h1 (h.pass j st hj z)
 have inc:∀j k,j<k->k<i+1->?mZ<?gR t ?d st k:=λj k hjk hk=>by
  unfold insT;by_cases a1:?lU
  . rw[?o3];by_cases b1:k<spot
    . rw[?m b1];exact ?iI j k ?aL hjk O9m
    . rw[?f b1];by_cases b2:k=spot
      . rw[?m b2];exact tl j a1
      . rw[?f b2];exact ?a4M j
  . rw[?rZ,?f (show ¬k<spot by omega),?f (show ¬k=spot by omega)];by_cases a2:?hX
    . rw[?BN];have e:=hex O9m;by_cases e2:k-1=spot
      . rw[e2];exact e
      . exact qs5 e (?a4M ?d)
    . rw[?AS];exact ?a4M ?j3
 have zero:∀j c,?o2->c<?mZ->?a72 j c=0:=λj c hj hc=>by
  unfold insT at hc;by_cases a1:?lU
  . rw[?o3]at hc;rw[lo j c a1];exact ?a6Q ?aX j
  . rw[?rZ]at hc;by_cases a2:?hX
    . rw[?BN]at hc;rw[a2,row];exact h0 c hc
    . rw[?AS]at hc;rw[up j c ?c ?c];exact ?a6Q ?aX ?j3
 have Ap8:∀j,?o2->j≠spot->0<?a72 j (?mZ):=λj hj hne=>by
  unfold insT;by_cases a1:?lU
  . rw[?o3,lo j _ a1];exact ?kI
  . rw[?rZ,?zV,up j _ ?c ?c];exact ?W ?j3 O9m
 have ts:?gR t ?d st ?d=st:=?R1
 have bd:∀r c,?cB->G c->(?qO).natAbs<=2 ^ ?eD:=λr c hr hc=>by
  rw[move_row]
  have lm:mvI i ?d r<=i:=by
   unfold mvI;by_cases a1:r<spot
   . rw[?o3];omega
   . rw[?rZ];by_cases a2:?A8
     . rw[?BN];omega
     . rw[?AS,?AT];omega
  apply qa5 (?iK _ c lm hc) (Dg ?_);have:=qc0 ?hJ hs;omega
 have lt:∀j,?bT->?mZ<W:=λj hj=>by
  unfold insT;split
  . exact ?a50 H.lt
  . split
    . exact hW
    . exact H.lt ?j3 O9m
 have pg:∀j,?bT->G (?mZ):=λj hj=>by
  unfold insT;split
  . exact ?a50 hpg
  . split
    . exact hG
    . exact hpg ?j3 O9m
 by_cases neg:?k6
 . rw[?m neg,?m neg];have nr:∀c,Gv ?s1 ?d ?d c=- ?IN:=λc=>Bn ..;have nn:∀r c,?M5->Gv ?s1 ?d r c=?qO:=λr c hr=>Bx hr c;apply#[gm.trans (Good.neg _ _ O9m ?c4),#[inc,?gN,?aA],lt,pg,?eN]
   . ext nM
     . have z:=?Y3;rw[e]at z ⊢;rw[nr,z];rfl
     . rw[nn j c e];exact ?Y3
   . ext nM
     . rw[e,nr,ts];omega
     . rw[nn j _ e];exact ?JI
   . by_cases e:?A8
     . have z:=?U9;rw[e]at z ⊢;rw[nr,qc6];exact z
     . rw[nn r c e];exact ?U9
 . rw[?f neg,?f neg];apply#[gm,#[inc,zero,?aA],lt,pg,bd];ext nM
   . rw[e,ts];have:?UW≠0:=by rw[row];exact h1
     omega
   . exact ?JI
structure Ow(n W w i:Nat)(R0 B0:Mat)[?t](k:Nat)[?U]:Prop where
 good:?vK
 s0:?ZS
 old:∀r c,r<k->?bU=?AL
 red:∀r j,k<=r->r<j->?bT->0<=R r ?K/\R r ?K<?aD
 hd:∀j,?bT->?aD=?K4
def Ow.start{n W w i:Nat}[?d5][?j](h:?ZS):Ow n W w i R B t ?g R B:=#[?r6,h,?hS,λr j h1 h2 h3=>O9m,?e7]
def Ow.part{n W w i:Nat}[?eW][?j]{k:Nat}(h:Ow n W w i R0 B0 t k R B):?eQ R t k ?g:=#[λj l _ h1 h2=>?B3 j l h1 h2,λj c _ h1 h2=>?H3 j c h1 h2,λj _ h1=>?NH j h1,λr j h1 h2 h3=>?hF r j h1 h2 O9m]
def Ow.next{n W w i:Nat}{R0 B0 R B R' B':Mat}[?j]{k μ:Nat}(h:Ow n W w i R0 B0 t ?bP R B)(hk:k<=i)(S:oK n W w ?g R B t k ?bP ?g ?g μ R' B'):Ow n W w i R0 B0 t k R' B':=by
 have tl:∀c,c<=t k->R' k c=?jD:=λc hc=>S.left c λl h1 h2=>by have:=?B3 k l O9m h2;omega
 apply#[?rC S.good,#[?B3,?gN,?aA],?FW,λr j h1 h2 h3=>?_,?aA]
 . ext bL
   . subst e;rw[tl c ?c];exact ?VC
   . rw[?j5 j c e];exact ?VC
 . ext bL
   . subst e;rw[?GA];exact ?LB
   . rw[?GL];exact ?LB
 . rw[?j5 r c ?c];exact ?c5 r c O9m
 . rw[?j5 j _ (?a2L j k)];by_cases e:r=k
   . subst e;exact S.red j O9m O9m
   . rw[?j5 r _ e];exact ?hF r j O9m h2 h3
 . ext bL
   . subst e;rw[?GA];exact ?EU
   . rw[?GL];exact ?EU
structure Dv[?jH](M B0:Mat)[?t][?U]:Prop where
 good:?a6B i M
 st:Dl W i R t
 pg:?zX
def Dv.start(n W w:Nat)(G:?aI)(M B0:Mat)[?t]:Dv n W w 0 G M B0 t M B0:=#[?r6,#[?hD,λj k _ hk=>O9m,?qA,?hD,λk j _ hj=>O9m],?hD]
def Dv.next[?a5]{M B0 R B R1 B1 R2 B2:Mat}{t t1:?v}{Y:Nat}[?gX](I:WE n W w i G R B t1 Y R1 B1)(D:?QP):Dv n W w ?g G M B0 t1 R2 B2 :=
 #[((h.good.mono O9m).trans I.good).trans D.good,#[?a7C I.lt,D.s0.inc,D.s0.zero,?MM,λk j h1 h2=>D.red k j ?aL h1 O9m],?a7C I.pg]
def Dv.rows{n W w:Nat}[?bW][?j][?E6](hw:w<=W):Em n w M R:=by
 have e:=?GK;have cut:∀{S:Mat}{v:?k},In W n S v->?a5U S v:=λ ?X=>#[x,λc hc=>hx c O9m]
 apply#[λi hi=>cut (e.1 i hi),λi hi=>cut (e.2 i hi),?_]
 obtain⟨r,hr,h1,h2⟩:?LL:=by
  have:?ZH:=by
   intro m
   induction m with
   | zero=>ext a18
   | succ m ih =>
     ext a1A
     . have hrm:r=m:=by
        ext a1F;have:=?kM r m y O9m;omega
       exact#[m+1,?j7,λj hj=>by
        by_cases q:j=m
        . rw[q];exact z
        . exact ?a50 b,?BO]
     . exact#[r,O9m,b,λj h1 h2=>by
        by_cases q:j=m
        . rw[q];omega
        . exact ?UG]
  exact ?VZ
 exact#[r,t,hr,?U0,?O3]
abbrev unit(e:Int)(j:Nat):?k:=λc=>if c=j then e else 0
noncomputable abbrev tr(T:Mat):Mat:=?FT
structure Io(n w r:Nat)(e:Int)(T:Mat):Prop where
 rn:?bC
 rw:?fJ
 row0:?ML
 col0:?P3
 rows:?ZL
 cols:?W4
def Io.flip[?uC](h:?sT):Io w n r e ?dM:=#[h.rw,h.rn,λi c h1 h2 h3=>?xM c i h3 h1 h2,λi c h1 h2 h3=>h.row0 c i h2 h3 h1,h.cols,h.rows]
def Tf{n w r r':Nat}{e:Int}{T:Mat}[?j](he:0<e)(hr:?fJ)(hr':r'<=n)(hst:Dl w r' T t)(hz:∀i c,r'<=i->?OX)[?a0T] :
 r'=r/\(?xZ)/\?rV:=by
 have tl:∀j,j<r'->t j<r:=λj hj=>by
  ext h0;have p:=?tQ;rw[hc j ?K ?c z (?e4 j hj)]at p;omega
 have main:∀j,j<=r->j<=r'/\(∀k,k<j->?r3)/\∀k,k<j->?aB∣e:=by
  intro j
  induction j with
  | zero=>intro _;exact#[?aM,?vR,?vR]
  | succ j ih =>
    intro hj;let ?U7:=?cX;let ?X:=(?a50 Pz).sub hr' hz;have v0:∀k,k<j->?aS e j ?a1=0:=λk hk=>by rw[b k hk];exact ?f O9m
    let#[x0,x1]:=?yS hx j a v0;have ej:?yB=e:=?q
    have lt:j<r':=by
     ext h0
     have:?yB=0:=by
      rw[?SE];exact ?a6D ?c
     omega
    have tj:t j=j:=by
     apply qi8 ?eI (?mE j lt)
     have:?yB=0:=by
      rw[?SE];apply ?R ?kB;by_cases e1:k<j
      . rw[x0 k e1];simp
      . rw[?gO k j hk (qb7 z (?F3 j k ?c hk))];simp
     omega
    have d:=x1 lt;rw[tj,ej]at d;apply#[lt,?kB,?kB]
    . by_cases e1:k=j
      . rw[e1];exact tj
      . exact b k O9m
    . by_cases e1:k=j
      . rw[e1];exact#[x j,by rw[d,qf1]]
      . exact c k O9m
 let ?U7:=main r ?i;apply#[qi8 ?eI a,b,c];have:=tl r z;have:=?mE r z;omega
def Yb[?uC][?j](IU:?bC)(hrw:?fJ)[?a1E][?a0T]:?W4:=by
 have ch:∀j,∃x:?k,j<r->∀c,c<w->?TZ=?a2P ?c8 r:=λj=>by
  by_cases hj:j<r
  . let ?X:=(Pz j hj).sub IU hz;exact ?Q4
  . exact#[?fE,λz=>?gD z hj]
 obtain⟨X,hX⟩:∃X:?rX,∀j,j<r->∀c,c<w->?TZ=Aj (λk=>X j k*?c8) r:=Classical.axiomOfChoice ch
 have key:∀i,i<r->∀j,j<r->Aj (λc=>?g2*X c j) r=?HM:=by
  intro i hi
  have hz0:∀c,c<w->(?PG) c=?IP:=by
   intro c hcw
   have e1:?IP=Aj (λj=>Aj (λd=>?z9*?fF) r+?D*((if j=i then 1 else 0)*(e*?fF))) r:=by
    apply Ai λj _=>?_;rw[Int.sub_mul,←Ee];by_cases z:i=j
    . subst z;rw[?q,?q];omega
    . rw[?e0,?f λy=>z y.symm];omega
   rw[e1,Cf,Ba,Cu (λj=>e*?fF) i r,?rQ,Cz]
   have e2:Aj (λd=>Aj (λj=>?z9*?fF) r) r=Aj (λd=>T i d*?aS e d c) r:=by
    apply Ai ?sK;rw[hX d hd c hcw,←Ba];exact Ai λj _=>qe0 ..
   rw[e2];show ?fS=_;by_cases hcr:c<r
   . rw[?a4 (j:=c) hcr λd hd hne=>by show ?a64 0;rw[?f ?wJ];simp];show ?fS=?g2*(if c=c then e else 0)+-1*(e*?g2);rw[?q,qf1];omega
   . rw[?R λd hd=>by show ?a64 0;ext d2;simp,hc i c ?c ?c hcw];simp
  let#[a,_]:=?yS hz0 r ?i ?e7;intro j hj;have:=a j hj;omega
 intro i hi;apply#[λc=>if c<r then X c i else 0,λc hcn=>?_];show ?aS e i c=?XN
 have e1:?XN=?K2:=by
  have:∀m,r<=m->m<=w->?a4B m=?K2:=by
   intro m
   induction m with
   | zero =>
     intro h1 _;have:r=0:=O9m
     subst this;rfl
   | succ m ih =>
     intro h1 h2;by_cases q:r=m+1
     . subst q;apply ?A1;rw[?m hk,qf1]
     . show Aj _ m+(if m<r then X m i else 0)*T c m=_;rw[?SF,?o];simp
  exact ?F w hrw ?i
 rw[e1];by_cases hcr:c<r
 . rw[key c hcr i hi];rfl
 . rw[?R λk hk=>by rw[hz c k ?c hcn ?c];simp];exact ?f O9m
def Em.square{n w r:Nat}{e:Int}[?EC][?uD]:Io n w r e T'/\∃t,?lH/\(?xZ)/\∀j,j<r->T' j j∣e:=by
 let#[r',t,hr',hst,hz]:=s.st
 have hc:∀i c,i<n->r<=c->?V5:=λi c hi h1 h2=>by
  let ?X:=s.fwd i hi;rw[hx c h2];exact ?R λk hk=>by rw[?xM k c hk h1 h2];simp
 have Pz:∀j,j<r->?a5U T' ?X0:=λj hj=>(h.rows j hj).trans s.bwd;let ?PJ:=Tf he h.rw hr' hst hz hc Pz;subst e1;exact#[#[h.rn,h.rw,hz,hc,Pz,Yb h.rn h.rw hst hz hc Pz],t,hst,e2,e3]
def LW[?uC][?j][?uD](hst:?UF)(ht:?xZ)(hd:?rV){i c:Nat}[?d6](hc:c<w):?RT:=by
 by_cases a:i<r
 . by_cases b:c<r
   . have l:=qm2 he (hd c b);rcases qm5 i c with z | z | z
     . have:=hst.red i c z b;rw[ht c b]at this;omega
     . subst z;have:=?qX i a;rw[ht i a]at this;omega
     . rw[?gO i c a (by rw[ht i a];exact z)];omega
   . rw[?xM i c hi ?c hc];omega
 . rw[h.row0 i c ?c hi hc];omega
def IX{n w r:Nat}{T:Mat}[?j](IU:?bC)[?a1E]:∀i,i<r->?a5C (?v5):=by
 have main:∀m i,i<m->m<=r->?a5C (?n9):=by
  intro m
  induction m with
  | zero=>intro i hi;omega
  | succ m ih =>
    intro i hi hm;by_cases q:i<m
    . exact ih i q O9m
    have qi:i=m:=O9m
    subst qi
    have up:∀k,k<=i->In n w ?dM (λd=>?a3U k):=by
     intro k
     induction k with
     | zero=>intro _;exact ?t4 ..
     | succ k ihk =>
       intro hk;have hk2:=ih k O9m O9m
       obtain⟨g,hg⟩:∃g,?h9=?A9*g:=by
        have:∀m,k+1<=m->∃g,?K0=?A9*g:=by
         intro m
         induction m with
         | zero=>intro h;omega
         | succ m ihm =>
           intro h;by_cases z:k+1=m+1
           . exact ?YH
           . ext a0C
        exact ?RX
       apply((ihk O9m).mix hk2 1 (T k ?cP*g)).congr ?YZ;show 1*Aj _ k+?a6L g ?A9=Aj _ k+?a6L ?h9 1;rw[hg];by_cases z:d=k
       . rw[?dJ,?dJ];grind
       . rw[?e0,?e0];omega
    have col:In n w ?dM (tr T ?cP):=?J (?e4 i O9m);apply(col.mix (up i ?i) (?h9) ?D).congr ?sK;show ?h9*T d ?cP+-1*?a3U i=?xQ;by_cases z:d<i
    . rw[?a4 (j:=d) z λl hl hne=>by rw[?f ?wJ];simp,?q];rw[show ?xQ=0 from ?o]
      grind
    . rw[?R λl hl=>by ext d2;simp];by_cases z2:d=i
      . subst z2;rw[show ?aS (?TY) d d=?TY from ?q];show _=?l ?fA d*T d (t d);omega
      . rw[show ?xQ=0 from ?f z2]
        have:T d ?cP=0:=by
         by_cases z3:d<r
         . exact ?IK z3 O9m
         . exact hz d _ O9m hd (?e4 i O9m)
        ext cG
 intro i hi
 obtain⟨g,hg⟩:∃g,?v5=?n9*g:=by
  have:∀m,i+1<=m->∃g,?K0=?n9*g:=by
   intro m
   induction m with
   | zero=>intro h;omega
   | succ m ihm =>
     intro h;by_cases z:i+1=m+1
     . exact ?YH
     . ext a0C
  exact ?F r hi
 apply((main r i hi ?i).mix (?t4 ..) g 0).congr ?YZ;show g*(if d=i then ?n9 else 0)+0*0=if d=i then ?v5 else 0
 by_cases z:d=i
 . rw[?dJ,?dJ,hg];grind
 . rw[?e0,?e0];omega
def V7.square[?bX]{T T' Nj:Mat}{r:Nat}[?j][?a0F]:?fJ/\Io n w r (?h7) Nj/\∃u,Dl n r ?qC u/\(?WK)/\∀j,j<r->Nj j j∣ ?h7:=by
 ext a0R;let#[q,u,hq,y7,QW]:=s2.st
 have hrw:?fJ:=by
  by_cases z:r=0
  . omega
  . have:=?mE ?i6 O9m;have:=?e4 ?i6 O9m;omega
 have hc:∀i c,i<w->r<=c->c<n->tr Nj i c=0:=λi c hi h1 h2=>by
  let ?X:=s2.fwd i hi;rw[hx c h2];exact ?R λk hk=>by rw[show tr T' k c=0 from hz c k h1 h2 hk];simp
 have Pz:∀j,j<r->In n w ?qC (?aS (?h7) j):=λj hj=>(IX hr hst hz j hj).trans ?p0;let ?PJ:=Tf he hr hq y7 QW hc Pz;subst e1;have sq:Io w n q (?l (?a57 ?K) q) ?qC:=#[hrw,hr,QW,hc,Pz,Yb hrw hr y7 QW hc Pz]
 exact#[hrw,?x8,u,y7,e2,e3]
def PC:∀{n:Nat}{A:Mat},(∀r c,r<n->c<n->?JB<=1)->(∀c r r',c<n->r<n->r'<n->?hK≠0->A r' c≠0->r=r')->?FH<=1
 | 0,_,_,_=>by simp[det]
 | n+1,A,h1,h2=>by
   show ?OE<=1;by_cases e:∃r,r<n+1/\A r 0≠0
   . let#[r,hr,hne]:=e
     rw[?a4 (j:=r) hr λk hk hkr=>by
      have:A k 0=0:=qg8 λz=>hkr (h2 0 k r ?c hk hr z hne);ext cG]
     rw[qb6,qb6,Xm,qf9]
     have ih:=PC (n:=n) (A:=Ge A r) (λx c hx hc=>h1 _ _ ?bM O9m) λc x x' hc hx hx' a b=>by
      have:=h2 ?aW (if x<r then x else x+1) (if x'<r then x' else x'+1) O9m ?bM ?bM a b;split at this<;>split at this<;>omega
     exact qa5 (qf5 (h1 r 0 hr O9m) ih) ?aE
   . rw[?R λk hk=>by
      have:A k 0=0:=qg8 λz=>e #[k,hk,z];ext cG]
     decide
def Xu{n p:Nat}(A:Mat)[?dX](a:?k)(U:Mat):∀m,?a2N ?Z4=?AR
 | 0=>by
   show ?a7A (B5 A p λc=>?fS)=0;exact Ue hp λc _=>Bn ..
 | m+1=>by
   have e:(λc=>Aj (λk=>a k*?fN) ?qJ)=λc=>1*(?Z4) c+?l8:=?aF λc=>by
    show ?zJ+?l8=1*?zJ+?l8;omega
   rw[e,Fb A _ _ 1 (a m) hp,Xu A hp a U m];show 1*?AR+a m*?a2N (U m)=?AR+a m*?a2N (U m);rw[qd7]
abbrev W0(s:?v):Mat:=λr l=>if s l=r then 1 else 0
abbrev EU(T:Mat)(s:?v)(k:Nat):Mat:=λr l=>if r<k then W0 s r l else T r ?b9
def LY[?DO]{k:Nat}(hk:k<i):?R7=?aB*?a7L (EU T s ?bP):=by
 have e0:?w5=B5 (?w5) k λc=>Aj (λj=>T k j*?qU) ?bP:=by
  funext r c
  by_cases z:r=k
  . subst z;rw[Bn];show ?a6N r;ext d2;by_cases y:s c<r+1
    . rw[?a4 (j:=s c) y λj _ hne=>by
       have:?qU=0:=?x6;ext cG]
      have:W0 s ?gI c=1:=?q;ext cG
    . rw[?R λj hj=>by
       have:?qU=0:=?o;ext cG]
      exact h r ?gI hk O9m
  . rw[Bx z]
 ext a13
 . congr 1
   apply C0 ?eN;by_cases z:r=k
   . subst z;rw[Bn];show _=if r<r+1 then ?j0 else ?j9
     ext nJ
   . rw[Bx z];show(if r<k then ?j0 else ?j9)=if r<k+1 then ?j0 else ?j9
     by_cases y:r<k
     . ext u4
     . ext u3
 . ext a0J;show(if j<k then ?qU else T j ?gI)=_;ext nJ
def JV[?DO]:∀k,k<=i->?a7L (?J5)=?wP*?R7
 | 0,_=>by
   show _=1*?a7L (EU T s 0);rw[qd7]
   exact C0 λr c hr hc=>by
    show _=if r<0 then ?j0 else ?j9
    ext d2
 | k+1,hk=>by
   rw[JV h s k ?c,LY h s ?c];ext a1O
def yR[?DO]:(?wA).natAbs<=(?I3).natAbs:=by
 rw[JV h s i ?i,qb6]
 have e:?a3P (EU T s i) 1:=by
  have k:∀r c,r<i->EU T s i r c=if s c=r then 1 else 0:=λr c hr=>by
   show ?a6N i;rw[?AT];rfl
  apply PC (?eN) λc r r' hc hr hr' a b=>?_
  . rw[?K7];split<;>decide
  . rw[?K7]at a;rw[k r' c hr']at b;split at a
    . split at b
      . omega
      . exact ?gD rfl b
    . exact ?gD rfl a
 exact qa5 (qf3 _ e) O9m
abbrev Ox(n:Nat)(G:?aI)(M:Mat)(D:Nat):Prop:=∀i,i<=n->∀s:?v,(?KF)->(det i (?a5L M)).natAbs<=D
def Dv.detsD[?uO][?bW][?j][?uF][?gX](hi:i<=m){s:?v}(hs:?KF):?a3P ?y8 D:=by
 rw[h.good.det i ?i s];exact hD i hi s hs
def Dv.headD[?uO][?bW][?j][?uF][?gX](hi:i<=m){j:Nat}(hj:j<i):?eB<=D:=by
 have:=vG ?yL (?x2 hD hi (s:=t) h.pg) hj;have p:=?NG;omega
def Dv.rowD[?uO][?bW][?j][?uF][?gX](hi:i<=m)[?uI]{r c:Nat}(hr:r<i)(hc:G c):?iW<=i*D:=by
 have:=tW ?yL ?jB (?J hr) (κ:=1) (D:=D) (XN c hc) (?aA) λk hk=>?x2 hD hi ?s7
 . rw[qf9]at this;ext aQ
 . rw[qf9];rcases qm5 r j with z | z | z
   . let ?m8:=?t8 r j z hj;omega
   . rw[z];ext dV
   . rw[h.st.s0.low hr z];exact ?aM
 . cases l with
   | zero=>exact hc
   | succ l=>exact h.pg _ ?bM
def Dv.putD[?uO][?bW][?j][?uF][?gX](hm:i<=m)[?d6][?uI]{b0 π b:Nat}(hM:∀c,G c->(M i c).natAbs<=?xR)[?a1H]:?L4:=by
 apply#[hi,?xG,?jB,λj hj=>qa5 (h.headD hD hm hj) h1,λr c hr hc=>qa5 (h.rowD hD hm XN hr hc) h2,?dB,?s7]
 . rw[?pX i c ?i];exact qa5 (hM c hc) (Dg h4)
 . rw[?pX i _ ?i];exact qa5 (hM _ (h.pg l hl)) (Dg h3)
def Io.free[?uC][?uD]{m:Nat}(hm:m<=r){x:?k}(hx:∀c,c<w->?xP=0):∀k,?HF:=by
 intro l hl;let ?mU:=h.cols l O9m;have e1:?Q3=0:=?R λc hc=>by rw[?eL];simp
 have e2:?Q3=?a2P ?G5 m:=by
  rw[show(λc=>y c*?xP)=λc=>?a2P (y c*?c8) m from ?aF λc=>by
   rw[←Ba];exact Ai λk _=>?E]
  rw[Cz];apply ?A1;rw[hy k (by have:=h.rn;omega),←Ba]
 rw[e2,?a4 (j:=l) hl λk _ hne=>by
  have:?G5=0:=?zV;ext cG]at e1
 have:?aS e l l=e:=?q;rw[this]at e1;rcases ?pG e1 with z | z
 . exact z
 . omega
def tR[?jR]{e:Int}{T M B0 R B:Mat}[?uD](hM:∀k c,k<n->c<w->M k c=?c8)(hi:i<r)(g:?a6B ?g M)(hW:?y0)(d:?a4R M B0):∃c,c<w/\?fH≠0:=by
 have rn:=h.rn;apply qg8 ?eS;have z0:∀c,?T7:=λc hc=>qg8 λy=>z #[c,hc,y];let ?X:=(g.eqv ?g ?i).1 i O9m
 have x0:=h.free he (m:=i+1) O9m (x:=x) λc hc=>by
  rw[←z0 c hc,?YO];exact Ai λk hk=>by rw[hM k c ?c hc]
 let#[c,hc,hne]:=(g.dual d).row (i:=i) O9m;apply hne ?_;rw[hx ?pE ?c];exact ?a6D hk
structure Q6(n W w r:Nat)(kt:?v)(hd:?k)(M:Mat):Prop where
 zero:∀j c,?aN->j<n->c<?fM->M j c=0
 inc:∀j k,?aN->j<k->k<n->?fM<kt k
 ge:∀j,?aN->j<n->w<=?fM
 lt:∀j,?aN->j<n->?fM<W
 head:∀j,?aN->j<n->M j ?eP=?iC
 pos:∀j,?aN->j<n->0<?iC
 red:∀k j,?aN->k<j->j<n->0<=?zE/\?zE<?iC
structure Ce(n W w r i:Nat)[?a1N][?t][?U]:Prop where
 st:?G9
 tab:∀j,j<r->j<i->t j<w
 ker:∀j,?aN->j<i->t j=?fM/\?aD=?iC
def Ce.start(n W w r:Nat)[?a1N][?t]:Ce n W w r 0 G M B0 kt hd t M B0:=#[Dv.start ..,?IW,?IW]
def Ce.next[?jR][?nU]{M B0 R B R1 B1 R2 B2:Mat}[?d1]{Y spot st:Nat}[?a23](hi:i<r)(hst:st<w)(hs:?cO)(I:WE n W w i G R B ?aY Y R1 B1)(D:Ow n W w i R1 B1 ?aY 0 R2 B2):?a5H ?aY:=by
 apply#[h.st.next I D,?oJ,?BO];unfold insT;split
 . exact ?GR
 . split
   . exact hst
   . exact ?sL ?j3 O9m O9m
def Ce.skip[?jR][?bW][?d1][?nB](hn:i<n){spot c:Nat}[?eZ](hc:?iL):?iQ:=by
 rw[?QO];apply ?zL i c hi hn ?_;have g:=K.ge i hi hn;by_cases z:?iO
 . have:=?sL ?d z hs;omega
 . have:=(?mJ ?d O9m hs).1;have:=K.inc ?d i O9m hs hn;omega
def Qp(R:Mat)(i:Nat):?P R i i=R:=by
 funext r
 ext jI;by_cases a:r<i
 . rw[?m a]
 . rw[?f a];by_cases b:r=i
   . rw[?m b,b]
   . rw[?f b,?o]
def Ce.ins[?jR][?bW][?d1]{π b:Nat}[?nB](H:?L4)(hG:G ?e1):WE n W w i G R B ?bR ?eD R B/\?UK:=by
 have all:?UK:=by
  intro spot
  induction spot with
  | zero=>intro _;exact Ds.start H
  | succ s ih=>intro hs;exact(?cX).skip λc hc=>h.skip K hi ?c4 O9m hc
 apply#[?_,all];have e:R i ?e1=hd i:=by ext E1;exact ?y7 i hi ?c4
 have p:=?r1 i hi ?c4;have:=(all i ?i).ins H ?i (st:=kt i) (λc hc=>by rw[?QO];exact ?zL i c hi ?c4 hc) O9m (K.lt i hi ?c4) hG h.st.pg (λz=>O9m);rw[Qp,Qp,?o,?o]at this;ext aQ
def Ce.nextK[?jR][?nU]{M B0 R B R2 B2:Mat}[?d1]{Y:Nat}[?nB](hn:i<n)(I:WE n W w i G R B ?bR Y R B)(D:Ow n W w i R B ?bR 0 R2 B2):?a5H ?bR:=by
 ext a0X;ext DF
 apply#[h.st.next I D,λj h1 h2=>by rw[?K6];exact ?GR,?oJ];rw[D.hd j ?c];by_cases z:j=i
 . rw[z,t2];exact#[rfl,by ext E1;exact ?GP]
 . rw[?K6];exact ?mJ j h1 O9m
def Ce.done{n W w r:Nat}[?bW][?d1](K:?CT)(h:?a6Z W M):?a3C W R:=by
 apply#[?LC,K.inc,K.ge,K.lt,?oJ,?r1,?OA]
 . rw[←(?M7).1]at h3;exact h.st.st.zero j c h2 h3
 . let ?m8:=?M7;rw[←a];exact b
 . let ?m8:=?mJ j h1 h3;rw[←a,←b];exact ?TS k j h2 h3
abbrev fV(V Z:Mat)(k:Nat):Mat:=λr l=>if r<k then Z r l else V r l
def mK[?a0N]{k:Nat}(hk:k<i):?yY=?aB*?a6V ?bP:=by
 have e0:?yY=?a7L (B5 (fV V Z k) k λc=>Aj (λj=>T k j*Z j c) ?bP):=C0 λr c hr hc=>by
  by_cases z:r=k
  . subst z;rw[Bn];show(if r<r then ?k0 else ?j1)=_;ext d2;exact ?rR
  . rw[Bx z]
 ext a13
 . congr 1
   apply C0 ?eN;by_cases z:r=k
   . subst z;rw[Bn];show _=if r<r+1 then ?k0 else ?j1
     ext nJ
   . rw[Bx z];show(if r<k then ?k0 else ?j1)=if r<k+1 then ?k0 else ?j1
     by_cases y:r<k
     . ext u4
     . ext u3
 . ext a0J;show(if j<k then Z j c else V j c)=_;ext nJ
def BY[?a0N]:∀k,k<=i->?a7L V=?wP*?yY
 | 0,_=>by
   show _=1*?a6V 0;rw[qd7]
   exact C0 λr c hr hc=>by
    show _=if r<0 then ?k0 else ?j1
    ext d2
 | k+1,hk=>by
   rw[BY h k ?c,mK h ?c];ext a1O
def BH{w r:Nat}{U V:Mat}(hw:?fJ)(hU:∀k c,k<r->c<k->?fN=0)(hV:∀l,l<r->In w r U (V l))(h0:∀l i,l<r->i<r->l<i->V l i=0):?a4F U r∣ ?GJ:=by
 have ch:∀l,∃x:?k,l<r->∀c,c<w->V l c=?a2P ?fN r:=λl=>by
  by_cases hl:l<r
  . let ?X:=hV l hl;exact ?Q4
  . exact#[?fE,λz=>?gD z hl]
 obtain⟨X,hX⟩:∃X:?rX,∀l,l<r->∀c,c<w->V l c=Aj (λk=>X l k*?fN) r:=Classical.axiomOfChoice ch;have e1:det r (tr V)=?GJ:=Uf (A:=tr V) λi l hi hl=>h0 l i O9m hi hl;have e2:=BY (i:=r) (T:=tr U) (V:=tr V) (Z:=tr X) (λi l hi hl=>?_) r ?i
 . rw[e1]at e2;exact#[_,e2]
 . show V l i=_;rw[hX l hl i ?c]
   have:∀m,m<=r-?g->?VG=Aj (λj=>tr U i j*tr X j l) ?g:=by
    intro m
    induction m with
    | zero=>intro _;exact Ai λk _=>?vC
    | succ m ih =>
      intro hm;show ?VG+X l ?t6*U ?t6 i=_;rw[?lQ,hU ?t6 i ?c ?c];omega
   have:=?F (r-?g) ?i;rw[show i+1+(r-?g)=r by omega]at this;ext aQ
def Yw[?M]{n:Nat}(h:?yE):∀m,?iP->?bY<=?g3:=λm hm=>by
 have:∀d,m+d<=n->?bY<=?sZ:=by
  intro d
  induction d with
  | zero=>intro _;exact ?NA _
  | succ d ih =>
    intro hd;apply qv6 (?cX) ?_;show ?sZ<=?sZ*f ?qG;have p:=Cd (n:=m+d) ?hZ;have q:=h ?qG O9m;have:=qj1 (show 1<=f ?qG by omega) (?a52 0 ?sZ);rw[qk5]at this;ext aQ
 have:=?F (n-m) O9m;rw[show m+(n-m)=n by omega]at this;ext aQ
def QN{w r:Nat}{T:Mat}{E:Nat}(hp:?IM)(h:∀i c,i<r->?ET)(hE:?wX):?VQ:=λi hi s hs=>by
 have t:=yR (i:=i) (T:=?qV) (λa c ha hac=>by
  show(?UO)=0;by_cases z:c<w
  . ext eY;exact h a c O9m z hac
  . ext cI) s
 have e:(?wA)=det i (?a5L (?qV)):=C0 λa c ha hc=>(?m ?TP).symm;rw[e];apply qa5 t ?_;by_cases z:i<=w
 . have e2:?W3=?I3:=by
    have:∀m,m<=w->?SG=?l ?rF m:=by
     intro m
     induction m with
     | zero=>intro _;rfl
     | succ m ih =>
       intro hm;show _*_=_*_;rw[?lQ];show ?a63 _;ext nJ
    exact ?F i z
   rw[e2];have a:=Yw (n:=r) (f:=?r5) hp i hi;have b:=Cd (n:=i) (f:=?r5) λk hk=>?TJ;omega
 . have e2:?W3=0:=by
    have:∀m,w<m->?SG=0:=by
     intro m
     induction m with
     | zero=>intro _;omega
     | succ m ih =>
       intro hm;show ?a63 0;by_cases y:w<m
       . rw[ih y];simp
       . ext d2;simp
    exact ?RX
   rw[e2];exact ?aM
structure Fl(n w r:Nat)(E:Nat)(e:Int)(T:Mat):Prop where
 sq:?sT
 low:∀i c,i<n->?ET
 pos:?IM
 dvd:?rV
 prod:?wX
 le:∀i c,i<n->c<w->?RT
 red:∀k j,k<j->j<r->0<=T j k/\T j k<?l6
def GF[?nF]{T:Mat}{u:?v}(he:0<e)(sq:?sT)(hst:Dl n r ?dM u)(hu:?WK)(hd:?rV)(hE:?wX):?k7:=by
 apply#[sq,λi c hi hc hic=>?_,?aA,hd,hE,λi c hi hc=>LW he ?x8 hst hu hd hc hi,λk j hk hj=>by
  have:=hst.red k j hk hj;rw[hu j hj]at this;ext aQ]
 . by_cases z:c<r
   . exact ?gO c i z (by rw[hu c z];exact hic)
   . exact sq.col0 i c hi O9m hc
 . have:=?tQ;rw[hu j hj]at this;ext aQ
def Em.going[?nF][?EC](he:0<e)[?jM]:Fl w n r E e (tr T'):=by
 let#[sq,t,hst,ht,hd]:=s.square he h.sq;have pos:∀j,j<r->0<T' j j:=λj hj=>by have:=?tQ;rw[ht j hj]at this;ext aQ
 apply GF he ?x8 hst ht hd ?_;have rn:=h.sq.rn;have rw':=h.sq.rw;have d:=BH (w:=w) (r:=r) (U:=T') (V:=T) rw' (?a4I ?gO ht) (λl hl=>(s.bwd l O9m).sub rn sq.row0) (λl i hl hi hli=>?eG l i O9m O9m hli);have p:=Cd (n:=r) (f:=?r5) ?W;exact qv6 (qm2 p d) ?v8
def V7.going[?nF][?EB](he:0<e)[?jM]:Fl n w r E e Nj:=by
 let ?A3:=s;exact s2.going he (s1.going he h)
def V7.first{n w r:Nat}{E:Nat}{T T' Nj:Mat}[?j][?a0F](hE:?h7<=E):Fl n w r E (?h7) Nj:=by
 let#[hw,sq,u,hu,hu2,hd]:=V7.square (T:=T) hr hst hz s2;ext a0R;apply GF he sq hu hu2 hd ?_;have d:=BH (w:=n) (r:=r) (U:=tr Nj) (V:=λl i=>T' i ?u) hr (?a4I hu.zero hu2) (λl hl=>(?p0 ?u (?e4 l hl)).sub hw sq.flip.row0) (λl i hl hi hli=>?IK hi hli);exact qv6 (qm2 he d) hE
def Fl.dets[?nF]{T:Mat}[?jM]:?VQ:=QN ?W (λi c hi=>?eG i c (by have:=h.sq.rn;omega)) ?v8
abbrev OF(n w r L m:Nat)(T:Mat):Prop:=?lN\/(∃k,k<=r/\?kV/\?JV<=m)\/(∃k,k<r/\?P6/\(r-k-1)*?hN+(?aB).natAbs.log2+1<=m)
def Fl.straight[?nF]{T:Mat}[?jM](c:Nl n w r T):?lN:=λi j hi hj hne=>by
 by_cases z:i<r
 . exact c.2.2.2.1 i j z hj (?wJ)
 . exact h.sq.row0 i j O9m hi hj
def log2_lt{a b:Nat}(ha:0<a)(h:a∣b)(hlt:a<b):a.log2<b.log2:=by
 let#[k,hk]:=h
 have k2:2<=k:=by
  rcases k with _ | _ | k
  . omega
  . omega
  . omega
 have b2:2*a<=b:=by
  rw[hk,?RS 2 a];exact qf3 _ k2
 have e:?RO=a.log2+1:=Nat.log2_two_mul O9m
 have m:?RO<=b.log2:=by
  rw[Nat.le_log2 ?c];exact ?a6K b2
 omega
def OF.start{n w r L:Nat}{E:Nat}{e:Int}{T:Mat}[?jM]:OF n w r L (r*?hN) T:=?G (?w #[0,?aM,?R4,by rw[qy1];ext dV])
def Fl.next{n w r L m:Nat}{E:Nat}{e:Int}{T Nj:Mat}(he:0<e)(hL:?XO)[?jM](s:?FU)(f:?V4)(ns:¬?lN):0<m/\OF n w r L (m-1) Nj:=by
 have g:=s.going he h;rcases f with f|⟨k,hk,c,hm⟩|⟨k,hk,c,hm⟩
 . exact ?gD f ns
 . have kr:k<r:=by
    apply Nat.lt_of_le_of_ne hk λz=>ns ?_;subst z;exact h.straight c
   have e1:?JV=(r-k-1)*?hN+?hN:=by rw[show r-k=(r-k-1)+1 by omega,qg0,qf9,qp1]
   apply ?ZR;let#[c2,q]:=s.next c;rcases q with q | q
   . exact ?w q
   . apply ?G (?G #[k,kr,q,?_]);have d:=h.dvd k kr;have d2:=g.dvd k kr;have p:=g.pos k kr
     have l:(?mP).natAbs.log2<=L:=by
      apply qa5 ?_ hL;rw[Nat.le_log2 ?c];apply ?a6K ?_;have:=qm2 he d2;omega
     omega
 . apply ?ZR;rcases s.less c with q|⟨q1,q2,q3⟩
   . apply ?G (?w #[k+1,O9m,q,?_]);rw[show r-?bP=r-k-1 by omega];omega
   . apply ?G (?G #[k,hk,q1,?_]);have p:=g.pos k hk;have p0:=?BK;have:=log2_lt (a:=(?mP).natAbs) (b:=(?aB).natAbs) O9m (qv5.mpr q2) O9m;omega
universe Lat
namespace Lat
structure EuA[?E5]:Prop where
 e1:r1=x1*A+y1*B
 e2:r2=x2*A+y2*B
 dt:?kT=1\/?kT=-1
 dv:∀d:Int,d∣r1->d∣r2->d∣A/\d∣B
structure EuR[?E5]:Prop where
 a:?AV
 rr:0<=r1*r2
 r0:?xF
 xx:x1*x2<=0
 yy:y1*y2<=0
 lx:?V7
 ly:?OD
def jX{u v:Int}(h:0<=u*v):(u+v).natAbs=u.natAbs+v.natAbs:=by
 rcases ?X1 u 0 with z | z | z
 . have:v<=0:=by
    ext gZ;have:=?TN z y;omega
   omega
 . subst z;omega
 . have:0<=v:=by
    ext gZ;have:=?R0 z y;omega
   omega
def EuR.next_le[?nD][?a2F]:?WN:=by
 have r1p:1<=r1.natAbs:=by have:=h.r0;omega
 have hA:A.natAbs=(?VB).natAbs:=by
  have e:(?kT)*A=?VB:=?JL
  rcases h.a.dt with d | d
  . rw[d,qd7]at e;rw[e]
  . rw[d]at e;have:A.natAbs=(-1*A).natAbs:=O9m
    rw[this,e]
 have hB:B.natAbs=(?BH).natAbs:=by
  have e:(?kT)*B=-(?BH):=?JL
  rcases h.a.dt with d | d
  . rw[d,qd7]at e;rw[e,qc6]
  . rw[d]at e;have:B=?BH:=O9m
    rw[this]
 have k1:0<=?ZC:=by
  have:?ZC=(-(y1*y2))*(r1*r2):=?E
  rw[this];exact ql2 (by have:=h.yy;omega) h.rr
 have k2:0<=?KC:=by
  have:?KC=(-(x1*x2))*(r1*r2):=?E
  rw[this];exact ql2 (by have:=h.xx;omega) h.rr
 rw[jX k1,qb6]at hA;rw[jX k2,qb6]at hB;have a1:x2.natAbs*1<=x2.natAbs*r1.natAbs:=?U3;have a2:y2.natAbs*1<=y2.natAbs*r1.natAbs:=?U3;omega
def EuA.step[?nD](h:?AV)(q:Int):EuA A B r2 x2 y2 (r1-q*r2) (x1-q*x2) (y1-q*y2):=by
 apply#[h.e2,?_,?_,λd h1 h2=>h.dv d ?_ h1]
 . rw[h.e1,h.e2];grind
 . have:x2*(y1-q*y2)-(x1-q*x2)*y2=-(?kT):=?E
   rw[this];rcases h.dt with z | z<;>rw[z]<;>omega
 . have:=?RU h2 (qt7 (a:=d) (b:=q) h1);have e:r1-q*r2+q*r2=r1:=O9m
   rw[e]at this;ext aQ
def BL{r1 r2:Int}(h:0<=r1*r2)(h2:?AN):0<=?dA/\?AZ/\0<=r2*(?mO):=by
 have e:?mO=?NK:=?a5R r1 r2
 rw[e];rcases ?S3 h2 with z | z
 . have r1n:r1<=0:=by
    ext gZ;have:=?R0 y z;omega
   have q:?dA=(-r1).fdiv (-r2):=by rw[Int.neg_fdiv_neg]
   have m:?NK=-((-r1).fmod (-r2)):=?GH
   have m0:=qu6 (a:=-r1) (b:=-r2) O9m;have m1:=qx2 (-r1) (b:=-r2) O9m;apply#[?_,?a5X r2,?_]
   . rw[q,?HP];exact ?R2 O9m O9m
   . rw[m];have:r2*-((-r1).fmod (-r2))=(-r2)*(-r1).fmod (-r2):=by rw[Int.mul_neg,qo7]
     rw[this];exact ?YT
 . have r1p:0<=r1:=by
    ext gZ;have:=?TN y z;omega
   have m0:=qu6 (a:=r1) (b:=r2) z;have m1:=qx2 r1 z;apply#[?_,?CZ,?YT];rw[?HP];exact ?R2 r1p O9m
def EuR.step[?nD][?a2F](h2:?AN):?a3T EuR:=by
 let#[q0,q1,q2]:=BL h.rr h2;let#[l1,l2]:=h.next_le;generalize ?dA=q at *;apply#[#[h.a.step q,q2,h2,?_,?_,l1,l2],q1]
 . have:x2*(x1-q*x2)=x1*x2-?NR:=?E
   rw[this];have a:=h.xx;have b:0<=?NR:=ql2 q0 (by rw[←?VJ (a:=x2)];omega);omega
 . have:y2*(y1-q*y2)=y1*y2-?HB:=?E
   rw[this];have a:=h.yy;have b:0<=?HB:=ql2 q0 (by rw[←?VJ (a:=y2)];omega);omega
abbrev EuI[?E5]:Prop :=
 ?SK\/(B<0/\r1=A/\x1=1/\y1=0/\r2=B/\x2=0/\y2=1) ∨
 (B<0/\r1=B/\x1=0/\y1=1/\r2=?o1/\x2=1/\y2=-(?aG))
def EuI.start{A B:Int}[?EI]:EuI A B A 1 0 B 0 1:=by
 rcases ?S3 hB with z | z
 . exact ?G (?w #[z,rfl,rfl,rfl,rfl,rfl,rfl])
 . apply ?w #[?UJ,ql2 O9m O9m,O9m,O9m,O9m,O9m,O9m]
def P7{A B:Int}(hA:0<A)(hB:B<0):?aG<=-1/\-A<=?aG/\?o1<=0/\(?o1).natAbs<B.natAbs:=by
 have e:?o1=A.fmod B:=?a5R A B
 have m:A.fmod B=-((-A).fmod (-B)):=?GH
 have m0:=qu6 (a:=-A) (b:=-B) O9m;have m1:=qx2 (-A) (b:=-B) O9m;have k:?aG*B=A-A.fmod B:=O9m
 rw[e]
 have q1:?aG<=-1:=by
  ext gZ;have:=ql2 (?a52 0 ?aG) (?a5O B);rw[Int.mul_neg]at this;omega
 apply#[q1,?_,O9m,?a5X B];ext gZ;have h:=?a4N (show 1<=-B by omega);have h2:-(?aG)*-B=?aG*B:=by rw[Int.neg_mul_neg]
 rw[h2]at h;have h3:=?a4N (?NA (-B));rw[h2,qr9]at h3;have h4:A*1<=A*-B:=?LD;omega
def EuI.step[?nD](hA:0<A)[?a2E](h2:?AN) :
 ?a3T EuI:=by
 ext a0H
 . exact#[?w (?T0).1,(?T0).2]
 . subst e1 e2 e3 e4 e5 e6;let#[_,_,_,q]:=?AO;exact#[?G (?G #[hB,rfl,rfl,rfl,rfl,O9m,O9m]),q]
 . let ?RB:=?AO;ext a0I
   have e7:=?OQ;rw[←e4]at e7 q3 q4
   have rr:0<=B*r2:=by
    have:=ql2 (?a5O B) (?a5O r2);rw[Int.neg_mul_neg]at this;ext aQ
   let#[p0,p1,p2]:=BL rr h2
   have p3:1<=?CX:=by
    ext gZ;have:?CX=0:=O9m
    rw[this]at p1;omega
   have f1:?cN-?aG*0=x2:=O9m
   have f2:?fS-?aG*1=y2:=O9m
   rw[f1,f2]at e7;have e8:=e7.step (?CX);subst e1 e2 e3;apply#[?w #[e8,p2,h2,?_,?_,O9m,O9m],p1]
   . subst e5;omega
   . generalize ?dA=p at *;have g1:y2*(1-p*y2)=-((p*y2-1)*y2):=?E
     rw[g1];have g2:1*y2<=p*y2:=qk9 p3 O9m;have:=ql2 (show 0<=p*y2-1 by omega) (?a52 0 y2);omega
def EuI.all[?nD][?EI][?a2E] :
 ?AV/\?xF/\?V7/\?OD/\?WN:=by
 ext a0I
 ext a0H
 . exact#[h.a,h.r0,h.lx,h.ly,h.next_le.1,h.next_le.2]
 . subst e1 e2 e3 e4 e5 e6;exact#[e0,O9m,O9m,O9m,O9m,O9m]
 . let ?RB:=?AO;have e7:=?OQ;have f1:?cN-?aG*0=x2:=O9m
   have f2:?fS-?aG*1=y2:=O9m
   rw[f1,f2,←e4]at e7;subst e1 e2 e3;exact#[e7,O9m,O9m,O9m,O9m,O9m]
structure Shares(A B g a b:Int):Prop where
 pos:0<g
 e:g=a*A+b*B
 dA:g∣A
 dB:g∣B
 la:a.natAbs<=B.natAbs
 lb:b.natAbs<=A.natAbs
def EuI.last{A B r1 x1 y1 x2 y2:Int}[?EI](h:?a3W EuI 0) :
 (0<r1->?t3 A B r1 x1 y1)/\(r1<0->?t3 A B (-r1) (-x1) (-y1))/\?xF:=by
 let#[k,r0,a1,a2,_,_]:=h.all hA hB;let#[d1,d2]:=k.dv r1 (qy4 _) (Int.dvd_zero _);apply#[λp=>#[p,k.e1,d1,d2,a1,a2],λp=>#[O9m,?_,?X3 d1,?X3 d2,O9m,O9m],r0];rw[k.e1,qo7,qo7];omega
def Shares.blend{A B g a b:Int}{π:Nat}(hA:0<A)(h:?Z7)(lA:A.natAbs<=?H)(lB:B.natAbs<=?H):lN π A B a b (-(B / g)) (?fU):=by
 let ?wW:=h.dA;let#[q,eB]:=h.dB;have g0:g≠0:=?BQ
 have k1:?fU=p:=?CI
 have k2:B / g=q:=?F7
 have gn:1<=g.natAbs:=?BQ
 have n1:p.natAbs<=A.natAbs:=by rw[eA,qb6];exact ?MN
 have n2:q.natAbs<=B.natAbs:=by rw[eB,qb6];exact ?MN
 rw[k1,k2];apply#[?_,by have:=h.pos;have:=h.e;omega,?_,qa5 h.la lB,qa5 h.lb lA,O9m,O9m]
 . have e:=h.e
   have:g*(a*p-b*-q)=g*1:=by
    rw[qk5];apply Eq.trans ?_ ?rB;rw[eA,eB]
    grind
   exact qt1 g0 ?F
 . rw[eA,eB]
   grind
universe Lat
namespace Lat
open Hb
abbrev Rn(n:Nat)(C:?aI)(δ b:Nat)(R:Mat):Prop:=∀r c,r<n->C c->?iW*?hO<?z
def Qx{x y a k:Int}{δ b c:Nat}(hx:?IR<?z)(hy:?QM<?z)(ha:a.natAbs<=?A)(hk:k.natAbs<=?A):?T8*?hO<2 ^ (b+c+1):=by
 have e:=?XB;rw[qb6,qb6]at e;have e2:=qc0 (?hO) e;rw[qg0,Nat.mul_assoc,Nat.mul_assoc]at e2;have p:0<?A:=?N7 c;have u:a.natAbs*(?IR)<?A*?z:=qc2 (qc0 _ ha) (qs2 hx p);have v:k.natAbs*(?QM)<?A*?z:=qc2 (qc0 _ hk) (qs2 hy p);rw[?CQ,qh9,qe8];omega
def Rn.mono{n δ b b':Nat}[?DV](hb:b<=b'):Rn n C δ b' R:=?JX
def Rn.add{n δ b c p q:Nat}[?DV][?DZ]:Rn n C δ (b+c+1) ?fV:=λr x hr hx=>by
 ext jU
 . subst e;rw[Ck];exact Qx (h r x hr hx) (h q x hq hx) (show 1<=?A from qm0) (qe6 hk)
 . rw[Dd e];exact(h.mono O9m) r x hr hx
def Rn.blend{n δ b e p q:Nat}[?DV][?b3][?a0G]:Rn n C δ (b+e+1) (?C R p q x y z u):=λr c hr hc=>by
 by_cases e1:r=p
 . subst e1;rw[?dN];exact Qx ?iB (h q c hq hc) (qe6 hx) (qe6 hy)
 . by_cases e2:r=q
   . subst e2;rw[Iy];exact Qx (h p c hp hc) ?iB (qe6 hz) (qe6 hu)
   . rw[?HW];exact ?a6E (h.mono O9m)
variable[?d3]
abbrev BB[?d4](C:?aI)(δ β:Nat)[?h3]:Prop:=?bZ n W β s.1/\?bZ n n β s.2/\Rn n C δ β s.1
def BB.mono{n W β β':Nat}[?u2](hb:β<=β'):?a2G β' s:=#[h.1.mono hb,h.2.1.mono hb,h.2.2.mono hb]
abbrev addS(p q:Nat)(k:Int)[?h3]:?aO:=(?r s.1 p q k,?r s.2 q p (-k))
abbrev blendS(p q:Nat)(x y z u:Int)[?h3]:?aO:=(?C s.1 p q x y z u,?C s.2 p q u (-z) (-y) x)
def BB.add{n W β c p q:Nat}[?u2][?dX][?DZ]:?a2G ?NN (?fD p q k s) :=
 #[(h.1.add hp hq hk).mono O9m,(h.2.1.add hq hp (k:=-k) (by rw[qc6];exact hk)).mono O9m,(h.2.2.add hq hk).mono O9m]
def BB.blend{n W β c p q:Nat}[?u2][?b3]{x y z u:Int}(hx:?EZ)(hy:y.natAbs<?A)(hz:z.natAbs<?A)(hu:u.natAbs<?A):?a2G ?NN (blendS p q x y z u s) :=
 #[(h.1.blend hp hq ne hx hy hz hu).mono O9m,(h.2.1.blend hp hq ne (x:=u) (y:=-z) (z:=-y) (u:=x) hu (by rw[qc6];exact hz) (by rw[qc6];exact hy) hx).mono O9m,(h.2.2.blend hp hq ne hx hy hz hu).mono O9m]
abbrev shrS[?t](p f:Nat)[?h3]:?RC
 | 0=>s
 | d+1=>?fD p ?dC (-((?A6).1 p ?kZ / (?A6).1 ?dC ?kZ)) (?A6)
def KC[?uR][?d5][?j]{p f m μ β c:Nat}(P:?o9)[?a14][?a1U](hc:2 ^ (m-f)*μ<?A)(b:?QG) :
 ∀d,f+d<=m->oK n W w lo R B t p f m ?dC μ ?j8 (?pK).2/\?a2G (β+d*?aW) (?pK)/\∀l c,l≠p->?j8 l c=R l c:=by
 intro d
 induction d with
 | zero=>intro _;exact#[?O4 h,b.mono O9m,?hS]
 | succ d ih =>
   intro hd;let#[i1,i2,i3]:=?cX;let ?ZG:=i1.step P O9m (show f+d<m by omega) hp hm hn hpf;have e:?JD=R ?dC ?kZ:=i3 _ _ O9m
   have qb:(-(?j8 p ?kZ / ?JD)).natAbs<?A:=by
    rw[qc6,e];apply qc2 q1 (qc2 ?_ hc);exact ?I7
   apply#[?_,(i2.add O9m O9m qb).mono (?S2),λl c hl=>?_]
   . show oK n W w lo R B t p f m (f+d+1) μ (?r ?j8 p ?dC _) (?r (?pK).2 ?dC p _);rw[e,qo6];exact q2
   . show ?r ?j8 p ?dC _ l c=_;rw[Dd hl];exact i3 l c hl
def pB[?a5][?d5][?j][?EK][?ED][?DL][?DQ][?E9] :
 ∀d,?m6->AH n W w i G R B t b p ?d μ ?fT ?w4 (?oY).2:=by
 intro d
 induction d with
 | zero=>intro _;exact AH.start h
 | succ d ih =>
   intro hd;have i1:=?cX;let ?ZG:=i1.step P hG O9m (show ?s6<i by omega) hn hp;have e:?w4 ?fT (t ?fT)=R ?fT (t ?fT):=i1.s.same _ _ O9m;show AH n W w i G R B t b p ?d μ (?s6+1) (?r ?w4 p ?fT _) (?r (?oY).2 ?fT p _);rw[e,qo6];exact q2
def Rr[?a5][?d5][?j]{b p spot μ β c:Nat}[?ED](inc:?xA)[?DL][?DQ][?eZ][?E9](hc:?w3<?A)[?gY] :
 i9 n W w i G R B t b p ?d μ (?LU).1 (?LU).2/\∀d,?m6->?a2G (β+i*?aW) (?oY):=by
 have r:=pB (W:=W) (w:=w) (B:=B) (b:=b) P h hG hn hp ?b2 O9m;rw[show ?xI+?b2=i by omega]at r;apply#[r.done inc,?sK];have:=(KC (W:=W) (w:=w) (lo:=i+1) (B:=B) P (?F8) O9m O9m O9m O9m (c:=c) (qc2 (?I7) hc) bb d hd).2.1;apply this.mono ?_;have:=qc0 ?aW (?a52 d i);omega
universe Lat
namespace Lat
open Hb
variable[?d3]
noncomputable abbrev cS(π i:Nat):Nat:=i+2*π+2
noncomputable abbrev cM(π i:Nat):Nat:=π+2+2*(?PP)
def AW{x π:Nat}(h:x<=?H):x<?mC:=by
 have:1<=?H:=qm0;rw[qh9];omega
def RV{π i μ:Nat}(h:μ<=?b4):?w3<2 ^ ?gU:=by
 have e:2 ^ ?gU=2*(2 ^ i*?b4):=by
  rw[show ?gU=1+(i+(2*π+1)) by unfold cS;omega,qe8,qe8,Nat.pow_one]
 rw[e];have a:=qf3 (2 ^ i) h;have b:1<=2 ^ i*?b4:=by rw[←qe8];exact qm0
 omega
variable[?a5][?eW][?j]{π b spot β:Nat}
def Ds.partOf[?eV]{R1:Mat}(e:∀r c,?iO->r<i->?yX=?bU) :
 ?eQ R1 t ?s i/\(?xA)/\∀r c,?iO->r<i->G c->?a3G ?yX ?z:=by
 have k:∀r c,?iO->r<i->?yX=?AL:=λr c h1 h2=>(e r c h1 h2).trans (?c5 r c O9m h2);apply#[(H.part.sub ?aL).congr λj c h1 h2=>k j c O9m h2,λl h1 h2=>?iI ?d l ?aL h1 h2,λr c h1 h2 hc=>?_];rw[k r c h1 h2];exact H.rw r c h2 hc
def Ds.meetAdd[?eV][?eZ][?u9]{q:Int}[?a24][?gY] :
 ?a53 ?FB ?FB ∧
 ?a2G ?kE ?pQ/\?a74 i ?pQ:=by
 have hn:=H.hi
 have hq:?AX:=by
  have a:=h.pv ?d ?i hs;have p:=?W ?d hs;rw[he,qb6]at a;exact qa5 (qi3 _ O9m) a
 have b1:?a2G (?kU) ?pQ:=bb.add hn O9m (c:=π+1) (by rw[qc6];exact AW hq);let ?XV:=?D1 H (R1:=?G8) λr c h1 h2=>?Z1;let#[S,bs]:=Rr (n:=n) (W:=W) (w:=w) (G:=G) (B:=(?zN).2) (p:=i) (μ:=?mC) (β:=?kU) (c:=?gU) P inc (h.addPre H hs hq) hG hs hn ?V2 (RV ?c2) b1;apply#[h.metAdd H hs hq hz he ?_,?L8,?a43 bs];have e:(?zN).2=?YL:=by show ?r B ?d i (- -q)=_;rw[qo6]
 rw[←e];exact S
def Ds.meetBlend[?eV][?eZ][?u9][?DM][?gY] :
 ?a53 ?MD ?MD ∧
 ?a2G ?kE ?tG/\(?a74 ?d ?tG) ∧
 ?a74 i (?AU):=by
 have hn:=H.hi;have ne:?BU:=O9m
 have b1:?a2G (?kU) ?tG:=bb.blend O9m hn ne (c:=π+1) (AW e.lx) (AW e.ly) (AW e.lz) (AW e.lu);let ?WZ:=h.blendPre H hs e;let ?XV:=?D1 H (R1:=?CM) λr c h1 h2=>?FY;let#[S1,bs1]:=Rr (n:=n) (W:=W) (w:=w) (G:=G) (B:=(?BE).2) (p:=spot) (μ:=?b4) (β:=?kU) (c:=?gU) P inc p1 hG hs hn (?w ?i) ?JP b1;have b2:=bs1 ?b2 O9m;generalize hs2:?AU=s2 at *;have Be9:?a7B ?d (?CM,(?BE).2)=s2:=hs2;rw[Be9]at S1 b2;let#[P2,Bd5,hG2]:=?D1 H (R1:=?iA) λr c h1 h2=>by rw[?m7 r c ?c,D6 ?c ?c]
 have p3:∀l,?e3->l<i->(?iA i ?u).natAbs<=?b4*(?iA l ?u).natAbs:=λl h1 h2=>by
  rw[?m7 i _ ?fZ,?OF];exact p2 l h1 h2
 let#[S2,bs2]:=Rr (n:=n) (W:=W) (w:=w) (G:=G) (R:=?iA) (B:=s2.2) (p:=i) (μ:=?b4) (β:=?kU+?PP) (c:=?gU) P2 Bd5 p3 hG2 hs hn ?V2 ?JP b2;exact#[h.metBlend H hs e hz S1 S2,?L8,?a43 bs1,?a43 bs2]
universe Lat
namespace Lat
open Hb
variable[?d3]
abbrev downS[?t](i:Nat)[?h3]:?RC
 | 0=>s
 | d+1=>?a7O (?cS t i s d) d
def b6[?a5][?eW][?j]{Y β:Nat}(I:WE n W w i G R0 B0 t Y R B)[?d6][?gY] :
 ∀d,?hY->?Y6/\?NV ∧
   (d<=i->∀m,m<=d->?KL):=by
 intro d
 have nxt:∀d,d<=i->?Y6->?NV →
  ∀m,m<=d->oK n W w ?g (?eR).1 (?eR).2 t ?a8 ?dQ ?g (?eE+m) (?oX) (?BD).1 (?BD).2/\?KL:=by
  intro d hd D b m hm;generalize hs:?eR=s at *;let#[R1,B1]:=s;have P:=D.part;rw[?LO]at P D
  have rel:∀l,?eE<=l->l<i+1->(?G0).natAbs<=?oX*(?NL).natAbs:=λl h1 h2=>by
   have o:?G0=R ?a8 ?u:=D.old ?a8 ?u O9m;have p:0<?NL:=?MM l h2;rw[o];apply qa5 (I.gc ?a8 ?u O9m (I.pg l O9m)) (qi3 _ O9m)
  have run:=KC (n:=n) (W:=W) (w:=w) (lo:=i+1) (R:=R1) (B:=B1) (p:=i-d) (f:=?eE) (m:=i+1) (μ:=?oX) (c:=i+1+Y+1) (β:=β+?a3V d Y) P rel O9m ?i hi (?w O9m) (by
   rw[←qe8];exact ?xB) b m O9m
  apply#[run.1,run.2.1.mono ?_];rw[qg0 d 1,qf9];have:=qc0 (i+1+Y+2) (show m<=i+1 by omega);have e:m*(i+1+Y+1+1)=m*(i+1+Y+2):=rfl;omega
 induction d with
 | zero =>
   intro _;have D0:Ow n W w i R B t (i+1-0) (?w6).1 (?w6).2:=Ow.start I.s0;have b0:?a75 0 ?w6:=bb.mono O9m;exact#[D0,b0,λhd m hm=>(nxt 0 hd D0 b0 m hm).2]
 | succ d ih =>
   intro hd;let#[D,b,_]:=?cX;let#[S,b2]:=nxt d O9m D b d ?i
   have D2:Ow n W w i R B t (i+1-?bE) (?H5).1 (?H5).2:=by
    rw[show i+1-?bE=i-d by omega];rw[?LO]at D;rw[show ?eE+d=i+1 by omega]at S;exact D.next O9m S
   exact#[D2,b2,λh m hm=>(nxt ?bE h D2 b2 m hm).2]
universe Lat
namespace Lat
open Hb
def sumN_cut[?M]{j:Nat}:∀{i:Nat},?bT->(∀k,j<=k->k<i->f k=0)->Aj f i=?r0
 | 0,h,_=>by rw[?a2Y j 0]
 | i+1,h,hz=>by
   by_cases e:j=i+1
   . rw[e]
   . show Aj f i+f i=_;rw[?FZ ?c λk h1 h2=>hz k h1 ?c,hz i ?c ?c];omega
def cJ[?M]{m h:Nat}:∀{j:Nat},(∀k,k<j->?KA<=2 ^ k*m*h)->(?r0).natAbs+m*h<=2 ^ j*m*h
 | 0,_=>by show(0:Int).natAbs+m*h<=2 ^ 0*m*h;simp
 | j+1,hf=>by
   have a:=cJ (f:=f) (m:=m) (h:=h) (j:=j) λk hk=>hf k O9m;have b:=?a50 hf;have c:=qf4 (?r0) ?lS;show(?r0+f j).natAbs+m*h<=_;rw[qh9];have e:2 ^ j*2*m*h=2 ^ j*m*h+2 ^ j*m*h:=?E
   omega
def Xh{a b:Int}{m:Nat}(h:(a+b).natAbs<=m):b.natAbs<=m+a.natAbs:=by have h5:=Int.natAbs_sub_le (b+a) a;rw[Int.add_sub_cancel,Int.add_comm]at h5;exact qa5 h5 (qq9 h _)
def uV{x s m M K:Nat}(h1:x<=m+s)(h2:s+M<=K)(h3:m*1<=M):x<=K:=O9m
def sH{i:Nat}[?d5][?j](P:?eQ R t 0 i){a m:Nat}(h:?a76 ?oD m):?P4:=by
 intro j
 induction j using Nat.strongRecOn with
 | _ j ih =>
   intro hj;have pj:=P.pos j ?aL hj;have hs:=h j hj;rw[?FZ (j:=j+1) ?c λk h1 h2=>by rw[?CN k _ ?aL h2 (P.inc j k ?aL ?c h2)];simp]at hs;have hs':(Aj (?r8) j+?QC).natAbs<=m:=hs
   have b:=cJ (f:=?r8) (m:=m) (h:=?eB) (j:=j) λk hk=>by
    rw[qb6];let#[r1,r2]:=P.red k j ?aL hk hj;exact qf5 (ih k hk O9m) O9m
   have c:(?QC).natAbs<=2 ^ j*m*?eB:=by
    exact uV (Xh hs') b (?C3)
   rw[qb6]at c;exact qs3 c O9m
def Dv.backs[?a5][?uP][?j][?gX](hi:i<=n){a m:Nat}(hb:∀k,i<=k->B k a=?EW)(hM:?a76 ?vM m)(hM2:?a76 ?rO m)(ha:i<=a->a<n->∀j,j<i->?vM=?rO):?P4:=by
 apply sH ?xG ?aA;have e:?SA=?vM:=h.good.pt a ?K
 have s:?SA=?oD+(if ?GS then ?rO else 0):=by
  have:∀d,i+d<=n->?X2=?oD+(if ?JQ then ?rO else 0):=by
   intro d
   induction d with
   | zero=>intro _;ext d2;show Aj _ i=_;omega
   | succ d ih =>
     intro hd;show ?X2+B ?kX a*R ?kX ?K=_;rw[?lQ,hb ?kX ?c,?pX ?kX _ ?c];by_cases z:i+d=a
     . subst z;rw[?q,?o,?L];omega
     . ext cI;by_cases y:?JQ
       . ext u4;omega
       . ext u3;omega
  have:=?F (n-i) O9m;rw[show i+(n-i)=n by omega]at this;ext aQ
 by_cases z:?GS
 . rw[?dJ,e,ha z.1 z.2 j hj]at s;have:?oD=0:=O9m
   rw[this];exact ?aM
 . rw[?e0,ql3]at s;rw[←s,e];exact hM j hj
def OZ[?j][?bX](inc:?a56 n):?LL:=by
 have:?ZH:=by
  intro m
  induction m with
  | zero=>ext a18
  | succ m ih =>
    ext a1A
    . have hrm:r=m:=by
       ext a1F;have:=inc r m y O9m;omega
      exact#[m+1,?j7,λj hj=>by
       by_cases q:j=m
       . rw[q];exact z
       . exact ?a50 b,?BO]
    . exact#[r,O9m,b,λj h1 h2=>by
       by_cases q:j=m
       . rw[q];omega
       . exact ?UG]
 exact ?VZ
def Dv.first{n W w D:Nat}[?bW][?j](hD:Ox n G M D)[?E6] :
 ∃r,?bC/\?HH/\(?S5)/\Q6 n W w r t ?mD R/\?IA<=D/\?SL:=by
 let#[r,hr,h1,h2]:=OZ (w:=w) ?kM;have pos:∀k,k<n->0<?mD k:=λk hk=>?lF k hk;apply#[r,hr,?U0,?O3,#[λj c _ a b=>?tA j c a b,λj k _ a b=>?kM j k a b,h2,λj _ a=>?jB j a,λj _ _=>rfl,λj _ a=>?lF j a,λk j _ a b=>?t8 k j a b],?_,?aA]
 . have a:=Yw (n:=n) pos r hr;have b:=?x2 hD ?i (s:=t) h.pg;rw[bI ?yL]at b;have c:=Cd (n:=n) pos;omega
 . have:=h.headD hD ?i hj;have:=?NG;omega
variable[?d3]
def addS_zero(p q:Nat)[?h3]:?fD p q (-0) s=s:=by
 unfold addS;rw[?PN,?PN,bU,bU]
def eU[?j]{p f:Nat}[?jS]:∀m,(∀j,?fR->j<f+m->s.1 p ?K / ?vB=0)->?pW=s
 | 0,_=>rfl
 | m+1,h=>by
   have ih:=eU (t:=t) (p:=p) (f:=f) (s:=s) m λj h1 h2=>h j h1 O9m;show ?fD p ?k2 (-((?pW).1 p (t ?k2) / (?pW).1 ?k2 (t ?k2))) (?pW)=s;rw[ih,h ?k2 ?c ?c,addS_zero]
structure Af7(i:Nat)[?t](R:Mat):Prop where
 inc:∀j,j<i->t j<t i
 zero:∀x,x<t i->?mL=0
 pos:∀j,?bT->?lL
 red:∀k j,k<j->j<i->?B9
abbrev Kz(R:Mat)[?t](i k:Nat):Int:=R k ?cP / R i ?cP
structure Oj(n i β c:Nat)[?t][?U](d:Nat)[?h3]:Prop where
 rows:∀r x,s.1 r x=if ?xO then ?lJ+-(?tO)*?mL else ?lJ
 old:∀r x,?oF->s.2 r x=B r x
 back:∀x,x<n->(s.2 i x).natAbs<=?jY*?bE
def Oj.step{n i β c:Nat}[?j][?d5]{d:Nat}[?jS](L:?IU)(bb:?G7)[?DR](hd:d<i+1)(h:?OS) :
 ?a46 ?bE (?a7O s d)/\?SR:=by
 have own:∀x,s.1 ?a8 x=R ?a8 x:=?UH
 have ri:∀x,s.1 i x=?mL:=?UH
 have hdj:∀j,?bT->?vB=?aD:=λj hj=>by
  rw[h.rows];by_cases z:?pN<=j/\j<i
  . rw[?dJ,L.zero ?K (L.inc j z.2)];simp
  . ext cI
 have zq:∀m,m<d->∀j,?eE<=j->j<?eE+m->s.1 ?a8 ?K / ?vB=0:=λm hm j h1 h2=>by
  rw[own,hdj j ?c];let ?m8:=L.red ?a8 j O9m O9m;exact Int.ediv_eq_zero_of_lt a b
 have zs:?SR:=λm hm=>eU m (zq m hm);apply#[?_,zs];by_cases d0:d=0
 . subst d0;show ?a46 1 s;apply#[?BB,?c5,λx hx=>qa5 (?wC) (?C3)];rw[h.rows,?o,?o]
 . obtain⟨e,rfl⟩:∃e,d=e+1:=#[d-1,O9m]
   have last:?Q t ?cM (i-(e+1)+1) s (e+1)=?fD ?cM i (-(?rH)) s:=by
    show ?fD _ (i-(e+1)+1+e) _ (?Q t ?cM (i-(e+1)+1) s e)=_;rw[zs e ?c,show i-(e+1)+1+e=i by omega,own,hdj i ?i];rfl
   rw[last];apply#[?BB,λr x hr=>?_,?oG]
   . show ?r s.1 ?cM i _ r x=_;by_cases z:r=i-(e+1)
     . subst z;rw[Ck,own,ri,?L,qd7]
     . rw[Dd z,h.rows];by_cases y:i+1-(e+1)<=r/\r<i
       . ext u4
       . ext u3
   . show ?r s.2 i ?cM _ r x=_;rw[Dd hr];exact ?c5 r x hr
   . show(?r s.2 i ?cM (- -(?rH)) i x).natAbs<=_;rw[Ck,qd7,qo6,?c5 ?cM x ?c];have a:=?wC;have b:=qf4 (s.2 i x) (?rH*B ?cM x);rw[qb6]at b;have m:(?rH).natAbs*(B ?cM x).natAbs<=?A*?cY:=qf5 (qe6 (hq _ O9m)) (qe6 (bb _ _ O9m hx));rw[←qe8,?QB]at m;rw[Nat.mul_add _ (e+1+1) 1,Nat.mul_one];omega
def QT{n W i β c:Nat}[?j][?d5](L:?IU)[?gY][?DR] :
 ∀d,?hY->?a46 d (?eR):=by
 intro d
 induction d with
 | zero =>
   intro _;apply#[?BB,?hS,?oG]
   . ext d2;rfl
   . show ?QJ<=_;have a:?QJ<?cY:=?sB i x hi hx;have p:?NM:=?fQ;omega
 | succ d ih =>
   intro hd;exact((?cX).step L ?sB hq hi O9m).1
def Oj.bits{n W i β c:Nat}[?j][?d5]{d:Nat}[?jS][?gY][?DR](hd:?hY)(h:?OS):?a2G (β+(c+i+3)) s:=by
 apply#[?xK,?xK,?xK]
 . rw[h.rows];by_cases z:?xO
   . ext eY;have e:=qf4 (?lJ) (-(?tO)*?mL);rw[qb6,qc6]at e;have a:=?LY;have b:=bb.1 i x hi hx;have m:(?tO).natAbs*(?mL).natAbs<=?A*?cY:=qf5 (qe6 (hq r z.2)) (qe6 b);rw[←qe8,?QB]at m;have p:?NM:=?fQ
     have q:4*?jY<=2 ^ (β+(c+i+3)):=by
      have e4:4*?jY=2 ^ (2+?z4):=by rw[qe8 2 2 ?z4]
      rw[e4];exact ?fQ
     have a':?H2<?cY:=a;omega
   . ext cI;exact qb7 (?LY) ?c2
 . by_cases z:r=i
   . subst z;have a:=?wC
     have l:d+1<2 ^ (r+2):=by
      have:=qr3 (n:=r+2);omega
     apply qc2 a ?_;have e4:2 ^ (β+(c+r+3))=?jY*2 ^ (r+3):=?wO
     rw[e4];apply qs2 ?_ qm0;exact qb7 l ?c2
   . rw[?c5 r x z];exact qb7 (?sB r x hr hx) ?c2
 . rw[h.rows];by_cases z:?xO
   . ext eY;have:=Qx (a:=1) (k:=-(?tO)) (c:=c) (bb.2.2 r x hr hx) (bb.2.2 i x hi hx) (show 1<=?A from qm0) (by rw[qc6];exact qe6 (hq r z.2));rw[qd7]at this;exact qb7 ?F ?c2
   . ext cI;exact qb7 (bb.2.2 r x hr hx) ?c2
universe Lat
namespace Lat
open Hb
variable[?d3]
def fdiv_small{x h:Int}{c:Nat}(hh:0<h)(hx:?EZ):?NB<?A:=by
 have:=KW (x:=x) (h:=h) (K:=x.natAbs) hh (qi3 _ O9m);omega
def Dv.putB{n W w i β:Nat}[?bW][?j][?gX][?d6][?uI](bb:?a5Z β R):Js n W w i G R B t β β :=
 #[hi,?xG,?jB,λj hj=>qe6 (bb j _ O9m (?xV)),λr c hr hc=>qe6 (bb r c O9m (XN c hc)),λc hc=>qe6 (bb i c hi (XN c hc)),λl hl=>qe6 (bb i _ hi (?jB l hl))]
def Ce.last{n W w r i β c:Nat}[?bW][?d1][?nB](hn:i<n)[?uI](hG:G ?e1)[?gY](hc:∀k,k<i->(R k ?e1).natAbs<?A) :
 Ce n W w r ?g G M B0 kt hd ?bR (?R5).1 (?R5).2 ∧
 (∀d,?hY->Oj n i β c ?bR R B d (?qB)/\?a2G (β+(c+i+3)) (?qB)) ∧
 (∀d,d<i+1->∀m,m<d->?Q ?bR ?a8 ?dQ (?qB) m=?qB):=by
 have H:=h.st.putB hn XN bb.1;let#[I,_]:=h.ins K hi H hG;have D:=(b6 I hn bb ?g ?i).1;rw[qh2]at D;ext a0X;ext DF
 have L:Af7 i ?bR R:=#[λj hj=>I.s0.inc j i hj O9m,λx hx=>I.s0.zero i x O9m hx,?a7C I.s0.pos,λk j h1 h2=>by rw[t1 j h2];exact ?TS k j h1 h2]
 have hq:∀k,k<i->?OM<?A:=λk hk=>?SV (L.pos i ?i) (by rw[t2];exact hc k hk);have run:=QT L bb hq hn;exact#[h.nextK K hi hn I D,λd hd=>#[?CH,(?CH).bits bb hq hn hd],λd hd=>((?WF).step L ?sB hq hn hd).2]
abbrev bW(n r i:Nat)(kt:?v)(c:Nat)(R:Mat):Prop:=∀k j,k<i->i<=j->j<n->(R k ?eP).natAbs<?A
def Ce.above{n W w r i β c η:Nat}[?bW][?d1][?jS][?nB](hn:i<n)(hη:∀j,?aN->j<n->?QV)(a:bW n r i kt c R)(l:Oj n i β c ?bR R B ?g s):bW n r ?g kt (c+η+1) s.1:=λk j h1 h2 h3=>by
 ext DF
 have mi:(R i ?eP).natAbs<?i9:=by
  ext E1;let#[m1,m2]:=K.red i j O9m O9m h3;have:=hη j O9m h3;omega
 have p1:?i9<=?HX:=?fQ;have p2:?A<=?HX:=?fQ;rw[l.rows,qh9];by_cases z:i+1-?g<=k/\k<i
 . ext eY;have e:=qf4 (R k ?eP) (-(?S0)*R i ?eP);rw[qb6,qc6]at e
   have q:?OM<=?A:=by
    unfold Kz;rw[t2];have p:0<R i ?e1:=by rw[?M2,?GP];exact ?r1 i hi hn
    exact qe6 (?SV p (a k i z.2 ?i hn))
   have m:=qf5 q (qe6 mi);rw[←qe8]at m;have b:=a k j z.2 O9m h3;omega
 . ext cI;have:k=i:=O9m
   subst this;omega
universe Lat
namespace Lat
open Hb
abbrev put2[?a7][?f0](x y:Int):?k:=λk=>if k=i then x else if k=j then y else f k
def Se[?a7][?f0](x y:Int):?eC f i j x y i=x:=?q
def Sd{i j:Nat}[?a7](h:?dK)(x y:Int):?eC f i j x y j=y:=by unfold put2;rw[?a7D h,?q]
def Ju{i j k:Nat}[?a7](h1:k≠i)(h2:k≠j)(x y:Int):?eC f i j x y k=f k:=by unfold put2;rw[?gP,?f8]
structure Ay7(o t g r:Int):Prop where
 go:g∣o
 gt:g∣t
 tr:t∣r
 pr:g*r=o*t
 all:∀d:Int,d∣o->d∣t->d∣g
def Shares.pair{A B g a b:Int}(h:?Z7):Ay7 A B g (?fU*B):=by
 let ?wW:=h.dA;have g0:g≠0:=?BQ
 have k1:?fU=p:=?CI
 apply#[h.dA,h.dB,#[?fU,?vC],?_,λd h1 h2=>?_]
 . rw[k1,←qe0,←eA]
 . rw[h.e];exact ?RU (qt7 h1) (qt7 h2)
abbrev ChainTo(m i:Nat)[?a7]:Prop:=∀a b,a<i->a<b->b<m->f a∣f b
abbrev ChainAt(m i j:Nat)[?a7]:Prop:=?P1/\∀b,i<b->b<j->f i∣f b
def ChainAt.step{m i j:Nat}[?M]{g r:Int}(h:?F5)[?EJ](p:Ay7 ?mW ?lS g r):?k3 m i ?a2 (?eC f i j g r):=by
 have ne:?dK:=O9m
 apply#[λa b ha hab hb=>?_,λb hb hbj=>?_]
 . rw[Ju f (?a2L a i) (?a2L a j)];have d1:=h.1 a i ha ha O9m;have d2:=h.1 a j ha O9m hj;by_cases e1:b=i
   . rw[e1,Se];exact p.all _ d1 d2
   . by_cases e2:b=j
     . rw[e2,?g6];exact qu2 d2 p.tr
     . rw[?S4];exact h.1 a b ha hab hb
 . rw[Se];by_cases e2:b=j
   . rw[e2,?g6];exact qu2 p.gt p.tr
   . rw[Ju f ?c e2];exact qu2 p.go (?M4)
def ChainAt.skip{m i j:Nat}[?M](h:?F5)(d:?tR):?k3 m i ?a2 f:=#[h.1,λb hb hbj=>by
 by_cases e:b=j
 . rw[e];exact d
 . exact ?M4]
def ChainTo.at{m i:Nat}[?M](h:?P1):?k3 m i ?g f:=#[h,λb h1 h2=>O9m]
def ChainAt.next{m i:Nat}[?M](h:?k3 m i m f):ChainTo m ?g f:=λa b ha hab hb=>by
 by_cases e:a=i
 . rw[e]at hab ⊢;exact h.2 b hab hb
 . exact h.1 a b O9m hab hb
def Qm{f f':?k}{i:Nat}:∀{m:Nat},i<m->(∀k,k<m->k≠i->f' k=f k)->?sE*f i=?bY*f' i
 | m+1,hi,h=>by
   show ?sE*f' m*f i=?bY*f m*f' i;by_cases e:i=m
   . subst e
     have:?l f' i=?l f i:=by
      have:∀l,l<=i->?XH=?l f l:=by
       intro l
       induction l with
       | zero=>intro _;rfl
       | succ l ih=>intro hl;show ?XH*f' l=?l f l*f l;rw[?lQ,h l ?c ?c]
      exact ?F i ?i
     rw[this]
     grind
   . have ih:=Qm (f:=f) (f':=f') (i:=i) (m:=m) O9m ?hZ;rw[h m ?c (?m1)];have:?sE*f m*f i=?sE*f i*f m:=?E
     rw[this,ih]
     grind
def MC[?M]{i j m:Nat}{x y:Int}[?EJ](h0:f i≠0)(hj0:f j≠0)(e:x*y=f i*f j):?qF=?bY:=by
 have ne:?dK:=O9m
 have a:=Qm (f:=f) (f':=?C6) (i:=i) (m:=m) O9m λk hk hne=>by
  by_cases z:k=j
  . rw[z,?g6]
  . exact Ju f hne z ..
 have b:=Qm (f:=?C6) (f':=?HS) (i:=j) (m:=m) hj λk hk hne=>by
  by_cases z:k=i
  . rw[z,Se,Se]
  . rw[?HU,?HU]
 rw[Se]at a;rw[?g6,?g6]at b
 have c:?qF*(f j*f i)=?bY*(f j*f i):=by
  have:?qF*(f j*f i)=(?qF*f j)*f i:=?E
  rw[this,b];have:?HO*y*f i=(?HO*f i)*y:=?E
  rw[this,a];have:?bY*x*y=?bY*(x*y):=?E
  rw[this,e]
  grind
 exact Int.eq_of_mul_eq_mul_right (Int.mul_ne_zero hj0 h0) c
structure Bil(β:?H8):Prop where
 l:∀u v y a b,β ?nX y=a*β u y+b*β v y
 r:∀x u v a b,β x ?nX=a*β x u+b*β x v
def CC{β:?H8}(hb:Bil β){P Q:Mat}[?M]{i j n w:Nat}(ne:?dK)(hin:i<n)(hjn:j<n)(hiw:i<w)(hjw:j<w)(h:∀x y,x<n->y<w->β (P x) (Q y)=?SO)[?a1Y] :
 ∀x y,x<n->y<w->β (?r ?n8 j i ?q4 x) (?C Q i j a b (-(f j / g)) ?t1 y)=if x=y then ?eC f i j g ?qL x else 0:=by
 let ?wW:=S.dA;let#[q,eB]:=S.dB;have g0:g≠0:=by have:=S.pos;omega
 have k1:?n3=p:=?CI
 have k2:f j / g=q:=?F7
 have k3:?CW=b*q:=by rw[eB,show b*(g*q)=g*(b*q) by grind];ext jV
 have e0:=S.e;have ne':j≠i:=?B2;rw[k1,k2,k3];have pi:?a70 i=?LR:=by rw[?gG ne,Ni]
 have pj:?a70 j=λc=>1*P j c+?t2*(?LR) c:=by
  rw[Ni,?gG ne',Ni]
 have po:∀x,x≠i->x≠j->?a70 x=P x:=λx h1 h2=>by rw[?gG h2,?gG h1]
 have ii:=h i i hin hiw;have ij:=h i j hin hjw;have ji:=h j i hjn hiw;have jj:=h j j hjn hjw;rw[?q]at ii jj;rw[?mA]at ij;rw[?f ne']at ji;intro x y hx hy;by_cases y1:y=i
 . subst y1;rw[?mH];by_cases x1:x=y
   . subst x1;rw[?q,Se,pi,hb.l,hb.r,hb.r,ii,ij,ji,jj]
     grind
   . rw[?vN];by_cases x2:x=j
     . subst x2;rw[pj,hb.l,hb.l,hb.r,hb.r,ii,ij,ji,jj];have:1*(a*0+?mK)+-(b*q)*(1*(a*f y+b*0)+1*(a*0+?mK))=?mK-b*q*(a*f y+?mK):=?E
       rw[this,←e0];have:?mK=b*(g*q):=by rw[←eB]
       rw[this]
       grind
     . rw[?wK,hb.r,?kS,h x j hx hjw,?vN,?yC];simp
 . by_cases y2:y=j
   . subst y2;rw[blend_row_q];by_cases x1:x=i
     . subst x1;rw[?mA,pi,hb.l,hb.r,hb.r,ii,ij,ji,jj];have:1*(-q*f x+p*0)+1*(-q*0+p*f y)=p*f y-q*f x:=?E
       rw[this,eA,eB]
       grind
     . by_cases x2:x=y
       . subst x2;rw[?q,?g6,pj,hb.l,hb.l,hb.r,hb.r,ii,ij,ji,jj];have:1*(-q*0+p*f x)+-(b*q)*(1*(-q*f i+p*0)+1*(-q*0+p*f x))=p*f x-b*q*(?JF):=?E
         rw[this];have:?JF=0:=by rw[eA,eB];grind
         rw[this];omega
       . rw[?yC,?wK,hb.r,h x i hx hiw,?kS,?vN,?yC];simp
   . rw[?w7 y1 y2];by_cases x1:x=i
     . subst x1;rw[?vF,pi,hb.l,?kS,h j y hjn hy,?vF,?zD];simp
     . by_cases x2:x=j
       . subst x2;rw[?zD,pj,hb.l,hb.l,?kS,h i y hin hy,?zD,?vF];simp
       . rw[?wK,?kS];by_cases e:x=y
         . rw[?c6,?c6,Ju f x1 x2]
         . rw[?cC,?cC]
abbrev bil[?V](A:Mat)(p q:?k):Int:=Aj (λa=>p a*Aj (λb=>?yI) w) n
def lE[?V](A:Mat):Bil (bil n w A):=by
 apply#[λu v y a b=>?_,λx u v a b=>?_]
 . unfold bil;ext jK;exact Ai λk _=>?E
 . unfold bil;ext jK;apply ?z6
   have:Aj (λc=>A k c*(?C8)) w=a*Aj (λc=>A k c*u c) w+b*Aj (λc=>A k c*v c) w:=by
    ext jK;exact Ai λc _=>?E
   rw[this]
   grind
def Qy[?bX]{A:Mat}{p p' q q':?k}(hp:∀a,a<n->p a=p' a)(hq:∀b,b<w->q b=q' b):?WE=?a2T p' q':=by
 unfold bil;apply Ai ?XQ;rw[hp a ha,Ai λb hb=>by rw[hq b hb]]
def bil_flip[?V](A:Mat)(p q:?k):?WE=bil w n ?p7 q p:=by
 unfold bil;rw[show(λa=>p a*Aj (λb=>?yI) w)=λa=>Aj (λb=>p a*(?yI)) w from ?aF λa=>(Ba ..).symm];rw[Cz];apply Ai λb _=>?_;rw[←Ba];exact Ai λa _=>?E
def Uo[?bX]{A:Mat}{x:?k}{U:Mat}{q:?k}:∀m,bil n w A (λc=>?sG) q=?AE
 | 0=>by
   show ?a2T (?fE) q=0;unfold bil;exact ?R λa _=>?c3
 | m+1=>by
   have e:(λc=>?a2P ?fN ?qJ)=λc=>1*(λc=>?sG) c+?zM:=?aF λc=>by
    show ?sG+?zM=1*?sG+?zM;omega
   rw[e,(?HK).l,Uo m];show 1*?AE+x m*?a2T (U m) q=?AE+x m*?a2T (U m) q;omega
abbrev oF[?V](A Q M:Mat):Prop:=∀k c,k<n->c<w->M k c=?a2T (λa=>M k ?bB) ?g7
def oF.rows{n w W:Nat}{A Q M R:Mat}(h:?XJ)(hW:?y0)(e:∀i,i<n->In W n M (R i)):?K5:=λi c hi hc=>by
 let ?X:=e i hi;rw[?YO];have:?a2T (λa=>R i ?bB) ?g7=bil n w A (λa=>Aj (λk=>x k*(λk a=>M k ?bB) k a) n) ?g7:=Qy (λa ha=>hx ?bB O9m) ?e7;rw[this,Uo];exact Ai λk hk=>by rw[?C0]
def Dv.told{n W w:Nat}[?nU]{A Q M B0 R B:Mat}[?j][?E6](hW:?y0)(k:?XJ):?K5:=k.rows hW (?GK).1
abbrev beside(w:Nat)(T P:Mat):Mat:=λr c=>if c<w then T r c else P r (c-w)
def beside_lo{w:Nat}{T P:Mat}{r c:Nat}(h:c<w):?B w T P r c=T r c:=?m h
def beside_hi(w:Nat)(T P:Mat)(r a:Nat):?B w T P r ?bB=P r a:=by unfold beside;rw[?o,qn0]
def O6[?a0Q]:oF n w A Q ?cV:=λk c hk hc=>by
 rw[?q6,?C0];exact Qy (λa _=>(beside_hi w T P k a).symm) ?e7
def Uv[?a0Q]:∀c k,c<w->k<n->tr T c k=bil w n ?p7 ?g7 (P k):=λc k hc hk=>by
 show ?c8=_;rw[?C0,bil_flip]
variable[?d3]
abbrev F2(π b i:Nat):Nat:=i*?f1+?a3V ?g ?eD
abbrev Ec(π b:Nat):?v
 | 0=>0
 | i+1=>?OG+?zZ
abbrev Q1(c η r:Nat):?v
 | 0=>0
 | d+1=>?ZO+(c+d*(η+1)+(r+d)+3)
universe Lat
namespace Lat
open Hb
variable[?d3]
def Ce.wide[?jR]{G G':?aI}[?uP][?d1][?a23](hG:∀c,G c->G' c):?a3O G' M:=#[#[h.st.good,h.st.st,λj hj=>hG _ (h.st.pg j hj)],?sL,?mJ]
def sI{n W r β:Nat}[?uS][?jS](b:?T1)(hr:?bC)(hC:∀j,?aN->j<n->C ?eP)(hδ:δ<=β):bW n r r kt (β-δ) s.1:=λk j h1 h2 h3=>by
 have:=b.2.2 k ?eP O9m (hC j h2 h3);have e:?cY=2 ^ (β-δ)*?hO:=?wO
 rw[e]at this;exact Nat.lt_of_mul_lt_mul_right ?F
abbrev moveS(i s:Nat)(x:?aO):?aO:=(?P x.1 i s,?P x.2 i s)
abbrev MJ(p:Nat)(x:?aO):?aO:=(Gv x.1 p,Gv x.2 p)
def zV{n i s r:Nat}[?h1](hr:r<n):?yJ<n:=?z1
def BB.move{n W β i s:Nat}[?E0][?h1]:?a2G β (moveS i s x) :=
 #[h.1.move hi hs,h.2.1.move hi hs,λr c hr hc=>by show(?P x.1 i s r c).natAbs*_<_;rw[move_row];exact h.2.2 _ c (zV hi hs hr) hc]
def BB.neg{n W β p:Nat}[?E0]:?a2G β (MJ p x) :=
 #[h.1.neg,h.2.1.neg,λr c hr hc=>by
  show(Gv x.1 p r c).natAbs*_<_;unfold Gv;ext jU
  . subst e;rw[Bn,qc6];exact ?MK
  . rw[?g4];exact ?MK]
abbrev insS(i spot st:Nat)(x:?aO):?aO:=if (?B5).1 ?d st<0 then MJ ?d (?B5) else ?B5
def Aa5(i spot st:Nat)[?U]:?CG=?GZ:=by
 ext a1D
 . ext eY;ext a02;ext eY;rfl
 . ext cI;ext a02;ext cI;rfl
def Aa4(i spot st:Nat)[?U]:?w9=?T4:=by
 ext a1D
 . ext eY;ext a03;ext eY;rfl
 . ext cI;ext a03;ext cI;rfl
def BB.ins{n W β i spot st:Nat}[?E0][?d6](hs:?cO):?a2G β (insS i ?d st x):=by
 unfold insS;split
 . exact(?Z3).neg
 . exact ?Z3
def UD{n W w i β:Nat}[?nU][?eW][?j]{π b spot st:Nat}[?a2D](p:?wM)[?a01](bb:?a2G (β+?tK) ?aP) :
 WE n W w i G R0 B0 ?aY ?eD ?CG ?w9 ∧
 Ow n W w i ?CG ?w9 ?aY 0 (?UP).1 (?UP).2 ∧
 ?WT ∧
 (∀d,?hY->?a2G (?n7) (?a7G d)) ∧
 (∀d,d<=i->∀m,m<=d->?a2G (?n7) (?Q ?aY ?a8 ?dQ (?a7G d) m)):=by
 have I:=p.ins H hs h0 h1 hW hG hpg hex;rw[←Aa5,←Aa4]at I;have b1:?WT:=(bb.mono (by have:=qc0 (?f1) hs;omega)).ins ?c4 hs;have run:=b6 (β:=?D6) I ?c4 b1
 have up:∀d,?hY->?D6+?a3V d ?eD<=?n7:=λd hd=>by
  unfold F2;have:=qc0 (?g*(i+1+?eD+2)) hd;omega
 apply#[I,?_,b1,λd hd=>(?CH).2.1.mono (up d hd),λd hd m hm=>((?WF).2.2 hd m hm).mono (up ?bE O9m)];have D:=(run ?g ?i).1;rw[qh2]at D;exact D
universe Lat
namespace Lat
open Hb
variable[?d3]
def Ww{w m D:Nat}{T P:Mat}(h:Ox m ?kA T D):Ox m ?kA ?cV D:=λi hi s hs=>by
 have e:(det i λr l=>?B w T P r ?b9)=?wA:=C0 λr c _ hc=>?CE ?TP;rw[e];exact h i hi s hs
def In.cols{w n:Nat}{R R':Mat}{u v:?k}(h:?GG)(hR:?a4X ?jD R')(hu:?S1):?a5U R' v:=by
 let ?X:=h;exact#[x,λc hc=>by rw[←hu c hc,?eL];exact Ai λk hk=>by rw[hR k c hk hc]]
def Em.cols[?bX]{T T' S S':Mat}(h:?zY)(e:?a4X ?c8 S)(e':?a4X ?BA S'):Em n w S S':=by
 let#[r,t,hr,st,hz]:=h.st;apply#[λi hi=>(h.fwd i hi).cols e (?a65 e'),λi hi=>(h.bwd i hi).cols e' (?a65 e),r,t,hr,#[st.lt,st.inc,?gN,?aA,λk j hk hj=>?_],λi c h1 h2 h3=>by rw[←e' i c h2 h3];exact hz i c h1 h2 h3]
 . rw[←e' j c ?c (by have:=?AG;omega)];exact st.zero j c hj hc
 . rw[←?IC];exact ?TL
 . rw[←e' k _ ?c (?AG),←?IC];exact st.red k j hk hj
def MO{n W w r i E π b:Nat}{e:Int}{T P B0 R B:Mat}[?d1](g:?k7)(hW:w<=W)(h:?a3O ?kA ?cV)(hi:i<r)(hE:E<=?H)(he:e.natAbs<=?H)(hb:i*E<=?z)(hπ:π<=b):?a4L ?kA:=by
 have rn:=g.sq.rn;apply h.st.putD (Ww g.dets) O9m O9m (λc hc=>O9m) (b0:=π) (?dB) hE hb ?i hπ;rw[?q6];let ?J6:=?a6Q g.le i;omega
def N9{n w r E:Nat}{e:Int}[?nU]{A Q T P B0 R B:Mat}[?d1](he:0<e)(g:?k7)(K:?a3C ?N ?cV)(h:?a6Z ?N ?cV)(k:?ZN) :
 ?VI/\Fl w n r E e ?gC/\?a3C ?N R/\?a7F R (λa=>R x ?bB):=by
 have s:?VI:=?a5I h.st.rows;exact#[s,s.going he g,h.done K,h.st.told ?i (O6 k)]
universe Lat
namespace Lat
open Hb
variable[?d3]
def ND{n W w i D π b b0:Nat}[?uP][?j][?a0V][?a21][?d6][?a1H]:?a4L (λc=>c<W) :=
 h.putD hD O9m hi (λ_ hc=>hc) (?a65 hM) h1 h2 h3 h4
def Sq{n W w i D b b0 β:Nat}[?uP][?j][?a0V](hB:∀k a,B0 k a=?EW)[?a21](hi:i<=n)(h2:?x1)[?a28]:BB n W (λ_=>False) 0 β ?aP:=by
 apply#[?eN,λr a hr ha=>?_,λ_ _ _ z=>z.elim]
 . have le:?F2:=by
    by_cases z:r<i
    . exact qa5 (h.rowD hD hi (λ_ hc=>hc) z hc) h2
    . rw[?pX r c ?c];exact qa5 (?a6E hM) (Dg h4)
   exact qc2 le (qi0 ?aE hβ)
 . have pM:∀x,x<n->∀c,pT n B0 M x c=M x c:=λx hx c=>by
    show Aj (λk=>B0 k x*M k c) n=M x c;rw[?a4 (j:=x) hx λk _ hne=>by rw[hB,?zV];simp,hB,?q,qd7]
   by_cases z:r<i
   . have:=h.backs hi (a:=a) (m:=?xR) (λk hk=>by rw[?GD k a hk,hB]) (λj hj=>by rw[pM a ha];exact ?W8) (?a7K ?W8) (λ_ _ j _=>pM a ha _) r z;rw[←qe8]at this;exact qc2 ?F (?xB)
   . show(B r a).natAbs<?cY;rw[?GD r a ?c,hB];have:1<?cY:=Nat.one_lt_two_pow O9m;split
     . ext aQ
     . exact qs5 ?aE ?F
universe Lat
namespace Lat
open Hb
def E6(w:Nat)(R:Mat):?B w R (λr a=>R r ?bB)=R:=by
 funext r c
 unfold beside;by_cases h:c<w
 . rw[?m h]
 . rw[?f h];show R r (w+(c-w))=?bU;rw[show w+(c-w)=c by omega]
def Q6.table{n W w r:Nat}[?uS]{hd:?k}{T T' P:Mat}(h:?a3C W ?cV)(hz:?n1):?a3C W (?B w T' P):=by
 have same:∀k c,w<=c->?B w T' P k c=?B w T P k c:=λk c hc=>by unfold beside;rw[?o,?o]
 apply#[?LC,?cZ,h.ge,h.lt,?oJ,?W,?OA]
 . by_cases z:c<w
   . rw[?CE z];exact hz j c h1 h2 z
   . rw[same j c ?c];exact ?TI
 . rw[same j _ (h.ge j h1 h2)];exact h.head j h1 h2
 . rw[same k _ (h.ge j h1 h3)];exact ?XF
def G8{n w w':Nat}{T T' P B:Mat}(h:?KN):Fn n w' (?B w' T' P) B:=λi j hi hj=>by
 have:=?ZD;unfold pD at this ⊢;rw[←this];exact Ai λc _=>by rw[beside_hi,beside_hi]
structure Sz(n w r E L m:Nat)(e:Int)(A T P PB Q QB:Mat)(kl kr:?v)(hl hr:?k):Prop where
 e0:0<e
 going:?k7
 kl:Q6 n ?N w r kl hl ?cV
 kr:?a3Z ?dM Q
 told:?ZN
 dl:?a4R ?cV PB
 dr:Fn w n (?B n ?dM Q) QB
 left:?V4
def Sz.next{n w r E L m:Nat}{e:Int}{A T P PB Q QB R RB S SB:Mat}{kl kr tl ur:?v}{hl hr:?k}{G G':?aI}(hL:?XO)[?a1R]
 (s1:Ce n ?N w r n G ?cV PB kl hl tl R RB)
 (s2:Ce w ?gM n r w G' (?B n ?gC Q) QB kr hr ur S SB) :
 ?GE/\(¬?lN->0<m/\Sz n w r E L (m-1) e A ?o7 (?l1) RB (?m0) SB kl kr hl hr):=by
 let#[a1,a2,a3,a4]:=N9 h.e0 h.going h.kl s1 h.told;have kr':?a3Z ?gC Q:=?a2I h.kr.table a2.sq.row0;have t2:?a4H Q:=λx c hx hc=>Uv (T:=R) (P:=?C7) a4 x c hx hc;let#[b1,b2,b3,b4]:=N9 h.e0 a2 kr' s2 t2;have st:?GE:=#[R,a1,b1]
 apply#[st,λns=>?_];let#[m0,lf]:=h.going.next h.e0 hL st h.left ns;apply#[m0,h.e0,b2,?_,?_,?_,?_,?_,lf]
 . have:Q6 n ?N w r kl hl (?B w R ?l1):=by rw[E6];exact a3
   exact ?a2I ?o6 b2.sq.row0
 . have:?a3Z S ?m0:=by rw[E6];exact b3
   exact ?a2I ?o6 b2.sq.flip.row0
 . intro x c hx hc;show S c x=_;rw[b4 c x hc hx,bil_flip]
 . have d:=s1.st.good.dual h.dl;have:?QL:=?FF
   exact ?pU
 . have d:=s2.st.good.dual (G8 h.dr);have:?JO:=?FF
   exact ?pU
abbrev one:Mat:=λi j=>?sY
def Ud[?V](T:Mat):?a4R (?B w T one) one:=λi j hi hj=>by
 unfold pD
 rw[show(λc=>?B w T one i ?pE*?B6)=λc=>(if c=i then 1 else 0)*?B6 from ?aF λc=>by
  rw[beside_hi];show(if i=c then ?cN else 0)*_=_;by_cases e:i=c
  . rw[?c6,?m ?rB]
  . rw[?cC,?f ?m1]]
 rw[Cu (λc=>?B6) i n,?rQ];show(if j=i then ?cN else 0)=_;by_cases e:i=j
 . rw[?c6,?m ?rB]
 . rw[?cC,?f ?m1]
def OX[?bX](A:Mat):∀x c,x<n->c<w->A x c=?a2T (one x) (one c):=λx c hx hc=>by
 unfold bil
 rw[?a4 (j:=x) hx λk _ hne=>by
  have:one x k=0:=?x6;ext cG]
 rw[?a4 (j:=c) hc λk _ hne=>by
  have:one c k=0:=?x6;ext cG]
 have e1:one x x=1:=?q;have e2:one c c=1:=?q;rw[e1,e2];simp
def HD{n w D D' L:Nat}{A R RB S SB:Mat}{t u:?v}{G G':?aI}(hD:Ox n G (?B w A one) D)(hD':Ox w G' (?B n ?gC one) D')
 (s1:Dv n ?N w n G (?B w A one) one t R RB) (s2:Dv w ?gM n w G' (?B n ?gC one) one u S SB) :
 ∃(r:Nat) (e:Int),?bC/\?fJ/\e<=D/\Sz n w r D L (r*?hN) e A ?o7 (?l1) RB (?m0) SB t u ?mD (λj=>?zT) ∧
   (?SL)/\∀j,j<w->?zT<=D':=by
 let#[r,hr,st,hz,K,pr,hd]:=s1.first hD;let#[r',hr',st',hz',K',_,hd']:=s2.first hD';have e0:0<?IA:=Cd (?a7K ?TL);have rs2:Em w n ?gC (tr ?o7):=?a5I s2.rows;have g:=V7.first (T:=A) hr st hz rs2 pr;have rw':=g.sq.rw
 have er:r'=r:=by
  apply qi8 ?eI ?eI
  . have p:=st'.pos r z;have:S r (u r)=0:=g.sq.col0 (u r) r (st'.lt r z) ?i O9m;omega
  . have p:0<S r' r':=g.pos r' z;have:S r' r'=0:=hz' r' r' ?i O9m O9m;omega
 subst er;have d1:=s1.good.dual (Ud n w A);have d2:=s2.good.dual (Ud w n ?gC);have tl:=s1.told ?i (O6 (OX (n:=n) (w:=w) A));have t2:?a4H one:=λx c hx hc=>Uv (T:=R) (P:=?C7) (Q:=one) tl x c hx hc;have tl2:=s2.told ?i (O6 t2);apply#[r',_,hr,rw',pr,#[e0,g,?_,?_,λx c hx hc=>?_,?_,?_,OF.start g],hd,hd']
 . have:Q6 n ?N w r' t ?mD (?B w R ?l1):=by rw[E6];exact K
   exact ?a2I ?o6 g.sq.row0
 . have:Q6 w ?gM n r' u (λj=>?zT) (?B n S ?m0):=by rw[E6];exact K'
   exact ?a2I ?o6 g.sq.flip.row0
 . show S c x=_;rw[tl2 c x hc hx,bil_flip]
 . have:?QL:=by rw[E6];exact d1
   exact ?pU
 . have:?JO:=by rw[E6];exact d2
   exact ?pU
structure Ed(n w m:Nat)(E:Nat)(A P PB Q QB:Mat)[?a7]:Prop where
 mn:?iP
 mw:m<=w
 diag:∀x y,x<n->y<w->?a2T (P x) (Q y)=?SO
 pos:∀x,x<m->0<f x
 zero:∀x,m<=x->x<n->x<w->f x=0
 prod:?bY<=E
 dl:Fn n 0 P PB
 dr:Fn w 0 Q QB
def bN[?bX]{T P B:Mat}(h:?KN):Fn n 0 P B:=λi j hi hj=>by
 rw[←?ZD];unfold pD;exact Ai λc _=>by rw[beside_hi,qv1]
def Sz.diag{n w r E L m:Nat}{e:Int}{A T P PB Q QB:Mat}{kl kr:?v}{hl hr:?k}[?a1R](s:?lN):Ed n w r E A P PB Q QB (λx=>T x x):=by
 apply#[h.going.sq.rn,h.going.sq.rw,λx y hx hy=>?_,h.going.pos,λx h1 h2 h3=>h.going.sq.row0 x x h1 h2 h3,h.going.prod,bN h.dl,bN h.dr];rw[←h.told x y hx hy];by_cases z:x=y
 . rw[?dJ,z]
 . ext cI;exact s x y hx hy z
def Ed.share[?a2C][?M](h:?IB){i j:Nat}[?EJ][?a1Y] :
 Ed n w m E A (?r ?n8 j i ?q4) (?r (?r PB j i ?D) i j (?CW)) (?C Q i j a b (-(f j / g)) ?t1) (?C QB i j ?t1 (f j / g) (-b) a) (?eC f i j g ?qL):=by
 have ne:?dK:=O9m
 have mn:=h.mn;have mw:=h.mw;have pi:=?W i O9m;have pj:=?sI;have pg:=S.pos;have pr:=S.pair;have gz:?n3*g=f i:=Int.ediv_mul_cancel S.dA
 have po:0<?n3*f j:=by
  have:0<g*?qL:=by rw[pr.pr];exact qu1 pi pj
  exact Int.pos_of_mul_pos_right ?F O9m
 apply#[mn,mw,CC (?HK) ne O9m O9m O9m O9m h.diag S,?oG,λx h1 h2 h3=>?_,?_,?_,?_]
 . by_cases e1:x=i
   . rw[e1,Se];exact pg
   . by_cases e2:x=j
     . rw[e2,?g6];exact po
     . rw[?S4];exact ?W x hx
 . rw[Ju f ?c ?c];exact ?aX x h1 h2 h3
 . rw[MC hij hj ?c ?c pr.pr];exact h.prod
 . have d1:=h.dl.add (p:=i) (q:=j) O9m O9m ne 1;have d2:=d1.add (p:=j) (q:=i) O9m O9m ?fZ ?q4;rw[qo6]at d2;exact d2
 . have B:=S.blend (π:=?Q9+?KW) pi (qa5 O9m (qe6 qr3)) (qa5 O9m (qe6 qr3));have d:=h.dr.blend (p:=i) (q:=j) O9m O9m ne B.one;rw[qo6]at d;exact d
def Ed.le[?a2C][?M](h:?IB){x:Nat}(hx:x<m):f x<=E:=qv6 (Yx ?W hx) ?v8
abbrev Wo(n r:Nat)(kt:?v):?aI:=λc=>∃j,?aN/\j<n/\c=?fM
def Q6.bits{n W w r β η:Nat}[?uS]{hd:?k}{M B:Mat}(K:?CT)(hη:∀j,?aN->j<n->?iC<=?i9)(b1:?a5Z β M)(b2:?G7)(hβ:η+1<=β):BB n W (Wo n r kt) ?mS β (M,B):=by
 apply#[b1,b2,λk c hk hc=>?_];let ?NI:=hc
 have le:?XR<=?i9:=by
  have p:=?r1 j h1 h2;have q:=hη j h1 h2
  have q':?QV:=by
   have:(?Y7:Int)<=((?i9:Nat):Int):=by rw[Int.natAbs_of_nonneg ?c];exact_mod_cast q
   exact_mod_cast this
  rcases qm5 k j with z | z | z
  . let ?m8:=K.red k j h1 z h2;omega
  . subst z;rw[?y7 k h1 h2];exact q'
  . rw[?zL k _ ?c hk (K.inc j k h1 z hk)];exact ?aM
 show ?XR*2 ^ ?mS<?cY;have e:?cY=2 ^ (η+1)*2 ^ ?mS:=?wO
 rw[e];apply Nat.mul_lt_mul_of_pos_right ?_ (?N7 _);exact AW le
abbrev Mn(π b η r n:Nat):Nat:=?e2+Q1 (η+1+?e2) η r (n-r)
def WB{n W r β η π b:Nat}[?uS][?jS](bb:BB n W (Wo n r kt) ?mS (β+?e2) s)(hr:?bC)(hβ:η+1<=β):bW n r r kt (η+1+?e2) s.1:=by
 have:=sI bb hr (kt:=kt) (λj h1 h2=>?NI) O9m;rw[show β+?e2-?mS=η+1+?e2 by omega]at this;ext aQ
def lU(π b:Nat){i r:Nat}(h:i<=r):?OG<=?e2:=by
 induction r with
 | zero=>rw[?a2Y i 0];ext dV
 | succ r ih =>
   by_cases e:i=r+1
   . rw[e];ext dV
   . have:=?cX;show _<=?e2+F2 π b r;omega
def nG(c η r:Nat){d e:Nat}(h:d<=e):?ZO<=?Y8:=by
 induction e with
 | zero=>rw[?a2Y d 0];ext dV
 | succ e ih =>
   by_cases z:d=e+1
   . rw[z];ext dV
   . have:=?cX;show _<=?Y8+_;omega
universe Lat
namespace Hb
open PySem L2
def jH{g:TG}[?DT][?ZY]
 (hs:∀i x y zs τ H p,xs[i]?=?iT->?YB->?hE->?dF->g ?eO τ (?a44 p (?bS [x,y])) λτ2 H2=>te τ2 H2 ?S7)
 [?a29]:?a68 ?pD LU:=NQ hn Pv h0 hl (λi x y zs τ H p e1 e2 q hp=>hs i x y zs τ H p e1 e2 q hp) hd
noncomputable abbrev big:Nat:=67108864
def xX:∃n:Nat,n=?TU:=#[_,rfl]
abbrev L9:Nat:=Classical.choose xX
def j4:L9=?TU:=Classical.choose_spec xX
def iM{i j:Int}{n:Nat}(hi:?N0)(hj:j.natAbs<2 ^ n)(h:9000+n<=134217728:=by decide):?zP i j:=Jd ?AM hj h
def cV[?a1W]:?zP i j:=Jd ?AM ?T5 ?aE
def V9.of9{i j:Int}(h0:j≠0)(h:?MI):V9 i j:=V9.of h0 (j4▸h)
def Bc1[?a1W]:(i*j).natAbs<2 ^ 18000:=by
 rw[qb6,show 18000=9000+9000 from rfl,qe8];exact qq7 ?AM ?T5
def xA{x π:Nat}(h:x<=?H)(hπ:π<=8999):x<L9:=by
 rw[j4];exact qc2 h (?xB)
abbrev BO[?d4][?bI]:Prop:=?XW n W big s.1/\?XW n n big s.2
abbrev TA(H:Hp)(r:Addr)(as:?gS)[?d4](f:Lat.Mat):Prop:=as.length=n/\H r=?a35 (?kJ)/\∀i c,?FN->H c=?a35 (VI W ?mW)
section
variable[?dW][?h6]{r:Addr}{as:?gS}{n W:Nat}{f g:Lat.Mat}
def TA.keep[?cF](h1:∀o,H r=?O->H' r=?O)(h2:?YY):?v0:=#[x.1,h1 _ ?iM,λi c e=>h2 c (qb3 e) _ (?iY i c e)]
def TA.same[?cF](s:?c0):?v0:=?BM (λ_ e=>?CJ) λ_ _ _ e=>?CJ
def TA.put{y:Addr}{o:HO}[?cF](h1:r≠y)(h2:∀a∈as,a≠y):?a7M (?a44 y o) f:=?BM (λ_ e=>?a5Q h1) λa ha _ e=>?a5Q (h2 a ha)
def TA.row[?cF]{i:Nat}[?d6]:∃c,?FN/\(?kJ)[i]?=?e (?h c)/\c∈as/\SqL K H c (VI W ?mW):=by
 let ?A4:=x;have e:=qa1 (l:=as) (i:=i) O9m;apply#[as[i],e,by rw[qb4,e];rfl,qf0 _,.of (h3 i _ e)]
def TA.rep[?cF]:Rep K H (?h r) (dT n W f):=by
 apply GL (us:=?kJ) (.of ?iM) (by rw[qa2,x.1]) ?rS;let#[c,_,e,_,h]:=x.row (K:=K) hi;exact#[c,e,h]
def TA.there[?cF]:H r≠none/\∀a∈as,?SS:=by
 apply#[by rw[?iM];exact(λz=>nomatch z),?XQ];let ?BS:=qj3 ha;rw[?V6];exact λz=>by cases z
def TA.of{D:Addr}{H1:Hp}{w h:Nat}(R:Rows H H1 D as w f)(hl:as.length=h):TA H1 D as h w f:=#[hl,R.at,λi c e=>(R.row i c e).2.2]
def TA.congr[?cF](e:∀i c,i<n->c<W->f i c=g i c):?a7M H g:=by
 apply#[x.1,?iM,λi c ec=>?_];have hi:i<n:=by rw[←x.1];exact(?p5 ec).1
 rw[?iY i c ec,Qe λk hk=>e i k hi hk]
def TA.x[?u5][?cF][?u0]:?v0:=by
 apply ?BM (λo e=>?a5N ?iM e) λa ha o e=>sx _ _ ?_ e;let ?BS:=qj3 ha;exact Fh (?V6) hp ?aC
def TA.made{H2:Hp}{L D:Addr}{i:Nat}[?cF](s2:Same H H2)[?d6](hL:H2 L=?a35 (?EX i (?h D)))(hD:H2 D=?a35 (VI W (g i)))(e:∀r,?oF->g r=f r):TA H2 L (as.set i D) n W g:=by
 apply#[by rw[qi2,x.1],by rw[hL,List.map_set],λj c ec=>?_];rw[qt5]at ec;by_cases hj:i=j
 . subst hj;ext a12;exact hD
 . rw[?f hj]at ec;rw[e j ?W2];exact s2 _ _ (?iY j c ec)
def TA.two{i j:Nat}{D1 D2:Addr}[?cF][?d6](hj:j<n)(hij:?dK)(h':?a7I r ((?EX i (?h D1)).set j (?h D2)))(keep:?YY)(h1:?a7I D1 (VI W (g i)))(h2:?a7I D2 (VI W (g j)))(e:∀k,k≠i->k≠j->g k=f k):TA H' r (?JY) n W g:=by
 apply#[by rw[qi2,qi2,x.1],by rw[h',List.map_set,List.map_set],λk c ec=>?_];rw[qt5,qi2]at ec;by_cases hkj:j=k
 . subst hkj;rw[?q,?m (by rw[x.1];exact hj)]at ec;cases ec;exact h2
 rw[?f hkj,qt5]at ec;by_cases hki:i=k
 . subst hki;ext a12;exact h1
 rw[?f hki]at ec;rw[e k (?a2Z hki) (?a2Z hkj)];exact ?e5 c (qb3 ec) _ (?iY k c ec)
def kN{i j:Nat}{D1 D2 a:Addr}(h:a∈?JY):?vY\/a=D1\/a=D2:=by
 rcases qo2 h with h | h
 . rcases qo2 h with h | h
   . exact ?w h
   . exact ?G (?w h)
 . exact ?G (?t0)
def Jx{l i:Nat}(h:i<l):VE l (?i2:Int)=?e i:=by
 unfold VE;rw[?L,?L,qd6]
universe e9
abbrev mNames:?v7:=["turn","blend","put_in","meet","shrink","shrink_row"]
structure LX(H:Hp)(C p r b:Addr)(sv:?dE)[?d4][?bI](N:?fW):Prop where
 ob:F1 λdx fs=>?a37 C fs/\Er (?a3F "rows" (?h r)) (?a3F "backs" (?d8)) (?dI (?PE:Str)=sv) ((∀m∈mNames,?II)) (fs.length<=10)
 rw:∃as,TA H r as n W s.1/\∀a∈as,?QS
 bk:∃bs,TA H b bs n n s.2/\∀a∈bs,?QS
 ne:r≠b
 nr:¬N r
 nb:¬N b
 nn:∀a,N a->?SS
def LX.keep[?h6][?tX][?uQ][?uA](e:?c0):?YS:=by
 ext DH;exact#[?H0,#[as,?N4,a2],#[bs,?MJ,b2],?eM,x.nr,x.nb,λa ha z=>x.nn a ha (e.free z)]
def LX.refs{H:Hp}[?tX][?uQ][?uA]:p≠r/\p≠b:=by
 let#[dx,fs,h1,_]:=x.ob;let#[as,a1,_]:=x.rw;let#[bs,b1,_]:=x.bk;exact#[Fh h1 a1.2.1 ?aC,Fh h1 b1.2.1 ?aC]
abbrev tnS(t:Tn)[?bI]:?I:=(tQ t s.1,tQ (tnA t) s.2)
abbrev ZV[?d4](f:Lat.Mat):Tn->Prop
 | .ad i j k=>i<n/\j<n/\?dK/\∀c,c<W->?zP k (f j c)
 | .mi i=>i<n
 | .sw _ _=>False
abbrev V8(r b:Addr)(H H':Hp):Prop:=∀x o,x≠r->x≠b->H x=?O->H' x=?O
def V8.of{r b:Addr}[?h6](s:?c0):?r7:=λ_ _ _ _ e=>?CJ
def V8.trans{r b:Addr}{H H1 H2:Hp}(x:V8 r b H H1)(y:V8 r b H1 H2):V8 r b H H2:=λa o n1 n2 e=>y a o n1 n2 (x a o n1 n2 e)
def V8.l[?a1X]:V8 r b H (upd H' r o):=?a51 n1
def V8.r[?a1X]:V8 r b H (upd H' b o):=?a51 n2
section
variable[?cD]
abbrev Yi:Sp:=λvs H Q _=>WG λ(r:Addr) (u:V) (as:?gS) ?i5 (f:Lat.Mat) (t:Tn)=>Oy (vs=[?h r,u]) (?TM) (Rep K H u (TH t)) (ZV n W f t) ?pI ?q1 (∀(D:Addr) (as':?gS) (H':Hp),?vT->?c0->TA H' D as' n W (tQ t f)->(∀a∈as',(?vY\/?x7)/\a≠D)->Q (?h D) H')
abbrev Mq[?jG]:Sp:=λvs H Q _=>eE λ(p dx C:Addr) (r b:V)=>Bw (vs=[?b0,r,b]) ((C=CL\/C=CS)) (?a37 C []) (∀H',(∀fs,fs=?SI->H'=upd (?a44 p (?bO C dx (putF "rows" r []))) p (?bO C dx fs)->?bN))
abbrev Kk[?cD]:Sp:=λvs H Q _=>SW λ(p:Addr) (u:V) (C r b:Addr) ?BJ ?i5 ?iD ?xH (t:Tn)=>EA (vs=[?b0,u]) ((C=CL\/C=CS)) (?uT) (Rep K H u (TH t)) (ZV n W s.1 t) (ZV n n s.2 (tnA t)) ?pI ?q1 (∀(r' b':Addr) (H':Hp),?yP->?JK->?J1->LX H' C p r' b' sv n W (tnS t s) N->?bN)
abbrev Wj:Sp:=λvs H Q _=>∃A B:Int,vs=[?n A,?n B]/\0<A/\B≠0/\?T9/\?UU/\∀(L:Addr) (g a b:Int) (H':Hp),?c0->?a6Y b->?oN A B g a b->?SY
abbrev Mr[?cD]:Sp:=λvs H Q _=>Ag5 λ(p C r b:Addr) ?BJ (n W i j:Nat) (A B:Int) ?iD ?xH=>YH (vs=[?b0,?rA,?n j,?n A,?n B]) ((C=CL\/C=CS)) (?uT) ?p6 (j<n) (?dK) ?pI ?q1 (0<A) (B≠0) (?T9) (?UU) (?wF) (∀(L:Addr) (g a c:Int) (H':Hp),?r7->?p3->?a6Y c->?oN A B g a c->LX H' C p r b sv n W (?vO i j a c (-(B / g)) (?fU) s) N->?SY)
universe e9
abbrev Hds(W:Nat)[?t](f m:Nat)(R:Lat.Mat):Prop:=∀j,?fR->j<m->t j<W/\?lL/\?eB<L9
structure SX(CS:Addr)(H0 H:Hp)(p q:Addr)(M:?fW)[?d4][?t](cnt:Nat)[?bI]:Prop where
 ex:∃r b,?TT/\?G3/\?QI
 st:H q=?a35 (VI cnt λi=>((t i:Nat):Int))
 same:?CL
 fp:?DD
 fq:?a47 q
 mq:M q
 sm:n<=100/\W<=200/\cnt<=n
section
variable{CS:Addr}{H0 H H':Hp}{p q:Addr}{M:?fW}{n W cnt:Nat}[?j]{s s':?I}
def SX.redo{H1:Hp}{r' b':Addr}[?E2](e:?JN)(sx:?qM p H1 H')(h1:H1 r'=none)(h2:H1 b'=none)(y:?a5Y r' b'):?VX:=by
 have s1:=?yR e;let#[r,b,z,_]:=x.ex;let#[dx,fs,hp,_]:=z.ob;exact#[#[r',b',y,s1.free h1,s1.free h2],?a5N x.st (e _ _ x.st),sx.same s1 x.fp,x.fp,x.fq,x.mq,?g5]
def SX.redo2{r b:Addr}[?E2](lx:?TT)(f1:?G3)(f2:?QI)(fr:?r7)(_kp:?p3)(y:?a5Y r b):?VX :=
 #[#[r,b,y,f1,f2],fr _ _ (λz=>?s9 ?Y4) (λz=>?o8 ?Y4) x.st,?a58 f1 f2,x.fp,x.fq,x.mq,?g5]
def SX.re[?E2](h:s=s'):?a2V cnt s':=h▸x
universe e9
def insAt_get{α:Type}(k:Nat)(y:α)(xs:?rI)(h:k<=xs.length)(j:Nat):(?TO)[j]?=if j<k then xs[j]? else if j=k then ?pS else xs[j-1]?:=by
 unfold insAt;by_cases h1:j<k
 . rw[?j4,qb8 (by rw[qe2];omega),qi7,?j4]
 . rw[?gP,qb5 (by rw[qe2];omega),qe2,Nat.min_eq_left h];by_cases h2:j=k
   . rw[?m9,h2,qh2];rfl
   . rw[?f8];obtain⟨e,rfl⟩:∃e,j=k+1+e:=#[j-?bP,O9m]
     rw[show k+1+e-k=e+1 by omega,List.getElem?_cons_succ,qs6]
     congr 1
     omega
def aW{α:Type}{xs:?rI}{i s:Nat}{y:α}(hi:xs[i]?=?pS)(hs:s<=i)(j:Nat):(?iR s y (xs.eraseIdx i))[j]?=xs[Lat.mvI i s j]?:=by
 have hl:i<xs.length:=?LN;rw[?KE _ _ _ (by rw[qk2 hl];omega)];unfold Lat.mvI;by_cases h1:j<s
 . rw[?j4,?j4,List.getElem?_eraseIdx,?L]
 . rw[?gP,?gP];by_cases h2:j=s
   . rw[?m9,?m9,hi]
   . rw[?f8,?f8,List.getElem?_eraseIdx];by_cases h3:?bT
     . rw[?L,?m h3]
     . rw[?o,?f h3]
       congr 1
       omega
def bF{α β:Type}(g:α->β)(k:Nat)(y:α)(xs:?rI):(?TO).map g=?iR k (g y) (xs.map g):=by
 unfold insAt;rw[qb0,qd3,List.map_take,List.map_drop]
def Vl{α β:Type}(g:α->β):∀(xs:?rI) (i:Nat),(xs.eraseIdx i).map g=(xs.map g).eraseIdx i
 | [],_=>rfl
 | _::_,0=>rfl
 | x::xs,i+1=>?wH (g x::·) (Vl g xs i)
def TA.move{H H1:Hp}{r:Addr}{as:?gS}{n W i s:Nat}{f:Lat.Mat}{ci:Addr}[?cF][?h1](mX:as[i]?=?e ci)(h1:H1 r=?a35 (?iR s (?h ci) ((?kJ).eraseIdx i)))(h2:∀a∈as,H1 a=H a) :
 TA H1 r (?RY) n W (Lat.moveR f i s)/\?GF:=by
 have mem:?GF:=λa ha=>by
  let#[j,hj]:=qf7 ha;rw[?R9]at hj;exact qb3 hj
 apply#[#[?_,?_,λj c e=>?_],mem]
 . unfold insAt;rw[qa8,qe4,qe2,ql8,qk2 (by rw[x.1];exact hi),x.1];omega
 . rw[h1,bF,Vl]
 . rw[?R9]at e;rw[h2 c (qb3 e),Lat.move_row];exact ?iY _ _ e
def HS{i s st:Nat}[?j](hs:s<=i):?iR s (?bQ ((st:Nat):Int)) (VI i λk=>((t k:Nat):Int))=VI ?g λk=>((?ME t s st k:Nat):Int):=by
 refine qq1;intro j;rw[?KE _ _ _ (by rw[Bu];exact hs)];by_cases hj:?o2
 . rw[Cm hj];unfold Lat.insT;by_cases h1:j<s
   . rw[?j4,?j4,?p4]
   . rw[?gP,?gP];by_cases h2:j=s
     . rw[?m9,?m9]
     . rw[?f8,?f8,?p4]
 . rw[?o,?o,?rW,?rW]
def Yl[?t](p f:Nat)[?bI]:∀d l,l≠p->(?i4 t p f s d).1 l=s.1 l
 | 0,_,_=>rfl
 | d+1,l,h=>by
   rw[Lat.shrS];show Lat.addR _ _ _ _ l=_;rw[Lat.addR_row_ne h];exact Yl t p f s d l h
abbrev BU[?d4][?t](i f m:Nat)[?bI]:Prop:=∀d,d<=m-f->BO n W (?i4 t i f s d)
abbrev jR[?d4][?t](i:Nat)[?bI]:Prop:=∀d,d<=i->Hds W t ?dQ ?g (?FC).1/\BU n W t ?a8 ?dQ ?g (?FC)
abbrev As2[?t](spot i:Nat)(k:Int)[?bI]:?I:=?i4 t i ?s (?l0 i ?d (-k) s) ?b2
abbrev Zl[?E7][?bI]:?I:=?vO ?d i a b (-(B / g)) (?fU) s
abbrev QK[?t][?E7][?bI]:?I:=?i4 t ?d ?s (Zl ?d i A B g a b s) ?b2
abbrev As1[?t][?E7][?bI]:?I:=?i4 t i ?s (QK t ?d i A B g a b s) ?b2
structure SJ[?d4][?t](spot i:Nat)[?bI](Nx:?lM):Prop where
 bo:?wF
 hd:Hds W t ?d i s.1
 oth:?kR≠0/\(?kR).natAbs<L9
 add:∀k,?kR=k*?AJ->BU n W t i ?s i (?l0 i ?d (-k) s)/\Nx (As2 t ?d i k s)
 ble:∀g a b,?oN ?qZ ?sR g a b->BU n W t ?d ?s i (Zl ?d i ?qZ ?sR g a b s)/\BU n W t i ?s i (QK t ?d i ?qZ ?sR g a b s)/\Nx (As1 t ?d i ?qZ ?sR g a b s)
structure Af5(n W i:Nat)[?t](s0:?I)(I:?Y9):Prop where
 start:I 0 s0
 ok:∀spot s,?cO->?zG->∃c,c<W/\s.1 i c≠0
 skip:∀spot s,?m5->?zG->(∀c,?iL->s.1 i c=0)->I ?s s
 meet:∀spot s,?m5->?zG->(∀c,c<?dO->s.1 i c=0)->?kR≠0->SJ n W t ?d i s (I ?s)
abbrev Hq(W:Nat)(u:?k)(st:Nat):Prop:=(∀c,c<st->u c=0)/\u st≠0/\st<W
def Hq.one{W W':Nat}[?nW]{a b:Nat}(h:Hq W u a)(k:Hq W' u b):a=b:=by
 rcases qm5 a b with e | e | e
 . exact ?gD (k.1 a e) h.2.1
 . exact e
 . exact ?gD (h.1 b e) k.2.1
def Hq.ex{W:Nat}[?nW](h:∃c,c<W/\u c≠0):∃st,?RN:=by
 let ?XC:=h
 induction c using Nat.strongRecOn with
 | _ c ih =>
   by_cases z:∃d,d<c/\u d≠0
   . let#[d,hd,hd0]:=z;exact ih d hd O9m hd0
   . apply#[c,?sK,h0,hc];exact qg8 λk=>z #[d,hd,k]
structure GW[?d4](J:?IH):Prop where
 step:∀i t s,i<n->J i t s->∃I,?H6/\∀spot st s',?cO->?yK->?D2->(?qH) →
  jR n W ?sU i (?a5T i)/\J ?g ?sU (?A0 ?sU i (?a5T i) ?g)
def jN{w n:Nat}{f g:?k}{h:?k}(h1:∀c,c<w->h c=f c)(h2:∀a,a<n->h ?bB=g a):VI w f++VI n g=VI ?N h:=by
 refine qq1;intro j;by_cases e1:j<w
 . rw[qb8 (by rw[Bu];exact e1),Cm e1,?p4,h1 j e1]
 . rw[qb5 ?iJ,Bu];by_cases e2:j<w+n
   . rw[?p4,Cm e2,←h2 (j-w) ?c,show w+(j-w)=j by omega]
   . ext a1B
def wC{w n:Nat}[?M]:Nd (VI ?N f) ?tJ ?Y=VI n ?W7:=by
 ext a09;have s1:?xJ ?N 0 ?tJ=w:=?GU
 unfold Nd;rw[Bu,s1,←e,List.drop_append_of_le_length ?iJ,List.drop_of_length_le ?iJ,qn4];refine ql5;rw[Bu];simp only[HT.sIx];omega
def Ay4{w n:Nat}[?M]:Nd (VI ?N f) ?Y ?tJ=VI w f:=by
 ext a09;have s1:?xJ ?N ?N ?tJ=w:=?GU
 have s2:?xJ ?N 0 ?Y=0:=rfl;unfold Nd;rw[Bu,s1,s2,List.drop_zero,qy1,←e,List.take_append_of_le_length ?iJ,ql5 ?iJ]
section
variable[?cD]
abbrev Wi[?cD]:Sp:=λvs H Q _=>wH λ ?oO (L r b:Addr) ?BJ ?xH ?i0 (T P PB:Lat.Mat) (J:?IH)=>EA (vs=[v,?n w,?h L]) (?a32 H T) (LX H CL L r b sv n n (P,PB) N) (n<=60) (w<=60) (GW n ?N J) ((∀t,J 0 t (?y4 w T P,PB))) ((∀i t s,J i t s->?w2)) (∀(tp D L' r' b':Addr) (as:?gS) [?t] [?bI] (H':Hp),?c0->J n t s->SqT K H' tp [?h D,?h L']->TA H' D as n w s.1->LX H' CL L' r' b' ?Y n n (λx a=>s.1 x ?bB,s.2) N->?vT->?a6A L'->?JK->?J1->?QH)
abbrev Tl:Sp:=λvs H Q _=>Xy λ(c:Addr) (W st:Nat) (u:?k)=>Er (vs=[?h c]) (SqL K H c (VI W u)) (?RN) ?q1 (Q (?n (st:Int)) H)
abbrev Kj[?jG]:Sp:=λvs H Q _=>SW λ ?dH ?qQ ?oW ?i5 ?t7 (cnt:Nat) ?iD (i f:Nat)=>Xg (vs=[?b0,?rA,?n f]) (?ZE) ?p6 (f<=cnt) ((i<f\/cnt<=i)) (Hds W t f cnt s.1) (BU n W t i f cnt s) (∀H',?a36 cnt (?i4 t i f s (cnt-f))->?bN)
abbrev Yg[?jG]:Sp:=λvs H Q _=>Ex9 λ ?dH ?qQ ?oW ?i5 ?t7 ?i2 ?iD=>Bw ?pV (?a2V ?g s) (jR n W t i s) (∀H',?a36 ?g (?A0 t i s ?g)->?bN)
abbrev ER[?jG]:Sp:=λvs H Q _=>SW λ ?dH ?qQ ?oW ?i5 ?t7 (?d i:Nat) ?iD (Nx:?lM)=>G9 (vs=[?b0,?n ?d,?rA]) (?a2V i s) (?m5) ?p6 (SJ n W t ?d i s Nx) (∀H' s',?a36 i s'->Nx s'->?bN)
abbrev Yh[?jG]:Sp:=λvs H Q _=>jQ λ ?dH ?qQ ?oW ?i5 ?t7 ?i2 ?iD (I:?Y9)=>G9 (vs=[?b0,?rA]) (?a2V i s) ?p6 (?H6) ((?xU)) (∀H' spot st s',?cO->?yK->?D2->(?qH)->SX CS H0 H' p q M n W ?sU ?g (?a5T i)->?bN)
abbrev eS[?jG]:Sp:=λvs H Q _=>Xy λ ?UN (r b:V)=>Dw (vs=[?b0,r,b]) (?a37 CS []) (∀q H' fs,?a6A q->fs=putF ?PE (?h q) (?SI)->?yP->?a7I q []->H' p=?e (?bO CS dx fs)->?bN)
universe e9
universe Hb
namespace L2
open PySem PySem.Spec PyProof.Rows PySem.SeqAt
def Zj(a b:Addr)[?EA]:?a3I Builtin.«dict.__ne__» ?BI :=
 ?F9 λprog w A R s hs=>by
  let ?YJ:=hs
  show ?p ?b5 A.in1 (do
   let ?OL ←?J2 ?D7 ?nZ
   if ! ?TQ then ?a6I ?D7;return ←ret .notImplemented
   ?a4P ?D7 false) _ _ s
  ext ZU;have e:∀b:Bool,(b==false)=!b:=?yA
  rw[e];exact qc9 ?wI
def RcNeAt.dicts[?a04] :
 RcNeAt A s ?f5 (?d8) ?BI:=λprog w E Q h =>
 ?RD (op:=.NotEq) ?CR ?z0 PySem.F.slot_dict_ne PySem.F.entry_dict_ne (PySem.F.args_dict_ne_2 _ _) (Zj a b ms ns)
  (?a3Q ?BI) hu
inductive yC(x:V)(y:V)(H:Hp)(Q:VK):Prop
 | mk:?a78 ?I5 ?I9
abbrev Ba4:R2:=λx y H Q=>?I9
section
variable{X:Cx}{n:Nat}[?dW]
def zH(hu:?YM):Rk X (?UB .NotEq) Ba4:=by
 ext a07;exact ?a3H RcNeAt.dicts ?I5
def nW(hc:?AW):?a2J X.K:=by
 ext nC;let#[p,bs,rfl,hq,q]:=h;ext E3;let#[its,rv,pl,hz]:=I.list hq;have hh:?Z6:=?A2
 have rel:∀(i:Nat) (v:Value),?Q8=?d9->∃b,?tL=?e b/\v=?jE b:=λi v e=>by
  have e':its[i]?=?d9:=?hM
  have hlt:?Q2:=?WJ;have l1:=rv.length;rw[qa2]at l1;have hb:?tL=?e (bs[i]'(O9m)):=?VH
  let ?pM:=?a3R V.bl bs;rw[e']at hu;cases hu;exact#[_,hb,ru]
 apply call_any_walk (qr1 pl.isList ?_);apply#[?Z,[s.heap.objs.size,p],[s.heap.objs.size],?PW,_,_,?WM,rfl,Walks.list (?a60 none) ?Z p ?_ ?oI,#[?uW,?_],?_,λh' tk k=>?_]
 . let#[o,_,ho,_]:=pl;exact ?a59 ho
 . exact pl.isList.at λo e=>?k8
 . intro i v s' Q' E' hv hQ;let#[b,hb,rfl]:=rel i v hv;dsimp only at hQ;rw[hb]at hQ;exact ql7 hQ
 . have e:(?uZ ?PW).any (?WM)=bs.any id:=by
    have l1:=rv.length;rw[qa2]at l1;rw[qd2,←l1];rw[qn7,ql9,ql9];constructor
    . rintro ⟨i,hi,hx⟩;have hlt:=qd0.mp hi;have hb:?tL=?e bs[i]:=?c3
      rw[hb]at hx;exact#[_,qf0 hlt,hx]
    . rintro ⟨b,hb,hx⟩;let#[i,hi]:=qf7 hb;apply#[i,qd0.mpr ?LN,?_];rw[hi];exact hx
   rw[e];have I1:?KB:=I.kept (λb o e=>k b o (by simp;exact ?JC) (?k8));exact#[.bl (bs.any id),H,I1,rfl,q]
def BQ:?H9 "any"=?e (?dR "any"):=?kK
def Zs(hc:?AW)(hK:X.K=K:=by rfl):?a2J K:=by subst hK;exact nW hc
universe e9
universe L2
namespace Hb
open PySem L2
abbrev YN:?v7:=["straighten","step","put_in_order","share"]
section
variable[?dW][?h6]
def Zy{nm a:Addr}(h:a≠nm):?YE=H a:=T7 h
def MU{nm a:Addr}(h:a=nm):?YE=none:=Zx h
def wQ[?u5]{a:Addr}{xs:?eJ}(h:SqL K H a xs)[?u0]:SqL K H' a xs:=by
 rcases h with(h|⟨o,h⟩) | h
 . ext a0U
 . ext a0M
 . exact ?t0
def jZ[?u5][?a25][?u0]:SqT K H' a xs:=by
 rcases h with(h|⟨o,h⟩) | h
 . ext a0U
 . ext a0M
 . exact ?t0
def An9{nm:Addr}{ys:?eJ}{o:HO}[?a25](hn:H nm=?a35 ys):SqT K (?a44 nm o) a xs:=by
 rcases h with(h|⟨u,h⟩) | h
 . exact ?w (?w (?HA))
 . exact ?w (?G #[u,?HA])
 . exact ?t0
def pC{m i:Nat}[?M]{x:Int}(hi:i<m):(VI m f).set i (?n x)=(Ie m λk=>if k=i then x else f k).map ?bQ:=by
 show _=VI m _;refine qq1;intro j;rw[qt5,Bu];by_cases hj:i=j
 . subst hj;rw[?q,?rQ,Cm hi,?q]
 . rw[?f hj];by_cases h2:j<m
   . rw[Cm h2,Cm h2,?f ?W2]
   . ext a1B
def Bl0[?u5]{v:V}[?bX]{f:?rX}(h:?a32 H f)[?u0]:?a32 H' f:=by
 let#[a,us,rfl,hq,hl,hr]:=Hn h;apply GL (wQ hq hp sx) hl ?rS;have e:=qa1 (l:=us) (i:=i) O9m;let#[_,b,eb,hb]:=hr i _ e;exact#[b,by rw[e,eb],wQ hb hp sx]
universe e9
def LX.x[?h6][?tX][?uQ]{q D dx:Addr}{fs:?a4S Str V}[?uA](hq:H q=?e (?bO D dx fs))(hqp:q≠p)(sx:?qM q H H')(kp:?p3):?YS:=by
 ext DH;exact#[#[dx,fs,sx _ _ hqp.symm h1,h2],#[as,a1.x hq sx,a2],#[bs,b1.x hq sx,b2],?eM,x.nr,x.nb,λa ha=>kp a (x.nn a ha)]
def LX.more[?h6][?tX]{N N':?fW}[?uA](e:?c0)(h:∀a,N' a->N a\/?x7)(hn:∀a,N' a->H' a≠none):?a5B H' N':=by
 ext DH;apply#[?H0,#[as,?N4,λa ha=>#[(?AB).1,(?AB).2.1,?eS]],#[bs,?MJ,λa ha=>#[(?zA).1,(?zA).2.1,?eS]],?eM,?eS,?eS,hn]
 . exact ?J7 ?s3 (a1.there.2 a ha)
 . exact ?J7 ?XS (b1.there.2 a ha)
 . exact(h r z).elim x.nr a1.there.1
 . exact(h b z).elim x.nb b1.there.1
structure WX[?jW](CL CW:Addr)(H0 H:Hp)(p L R nm:Addr)[?V](M:?rK)[?nG](ns:?iG):Prop where
 ob:Ut λtv dx fs=>?a37 CW fs/\Xg (?a3F "table" tv) (?a3F "width" (?D9)) (?a3F "left" (?h L)) (?a3F "right" (?h R)) (?a3F "numbers" (?h nm)) ((∀m∈YN,?II)) (fs.length<=10) (∀M',M=?e M'->Rep K (T8 H ?GO) tv (dT n w M'))
 li:Xy λr1 b1 r2 b2=>?YG/\?LM/\Bw (?a47 r1) (?a47 b1) (?a47 r2) (?a47 b2)
 nu:H nm=?a35 (ns.map ?bQ)
 same:?CL
 fr:?DD/\?a47 L/\?a47 R/\?a47 nm
 ne:p≠L/\p≠R/\L≠R
 sm:n<=60/\w<=60
abbrev oH(m:Nat)(M:Lat.Mat):?iG:=((?uZ m).map λi=>?oE).filter λx=>?a0 (x≠0)
def WX.keep[?nK]{H0 H H':Hp}[?DJ][?tY](s:?c0):?a2O H' M:=by
 ext a0B;exact#[#[tv,dx,fs,?V1,l1,l2,l3,l4,l5,l6,l7,λM' e=>?HJ (pG s) (hrep M' e)],#[r1,b1,r2,b2,lx.keep s,?J8,f],?F0,?yR s,x.fr,?eM,?g5]
def WX.num[?nK]{H0 H:Hp}[?DJ]{ns ns':?iG}(x:?FD):WX K CL CW H0 (?a44 nm (?S (ns'.map ?bQ))) p L R nm n w M l r ns':=by
 ext a0B;have hpn:p≠nm:=Fh hp ?iS ?aC
 have go:∀{q r b:Addr}{m:Nat}{s:?I}[?uQ],LX H CL q r b ?Y m m s N->N nm->LX (?a44 nm (?S (ns'.map ?bQ))) CL q r b ?Y m m s N:=λ{q r b m s N} y hN=>by
  let#[d2,f2,e1,e2]:=y.ob;let ?uX:=y.rw;let ?IG:=y.bk;apply#[#[d2,f2,by rw[Ak (Fh e1 ?iS ?aC)];exact e1,e2],#[as,a1.put (λz=>y.nr ?rN) λa ha z=>?s3 ?rN,a2],#[bs,b1.put (λz=>y.nb ?rN) λa ha z=>?XS ?rN,b2],y.ne,y.nr,y.nb,λa ha z=>?_];by_cases e:a=nm
  . rw[e,Ab]at z;cases z
  . rw[Ak e]at z;exact y.nn a ha z
 apply#[#[tv,dx,fs,by rw[Ak hpn];exact hp,l1,l2,l3,l4,l5,l6,l7,λM' e=>?HJ (BG λa o n e=>?a5Q n) (hrep M' e)],#[r1,b1,r2,b2,go lx (?w rfl),go ly rfl,f],Ab,λa o e=>by rw[Ak (At e x.fr.2.2.2)];exact ?v6,x.fr,?eM,?g5]
def WX.drop[?nK]{H0 H:Hp}[?DJ][?tY]:?a2O H ?Y:=by
 ext DP;exact#[(?a38 ?vA),x.li,?iS,x.same,x.fr,?eM,?g5]
def WX.left[?nK]{H0 H H1 H':Hp}{p L R nm r1 b1 r2 b2 r' b':Addr}[?bX]{M:?rK}{l r l':?I}[?tY](lx:?YG)(ly:?LM)[?a1T]
 (s:?JN) (sx:?qM L H1 H') (h1:?a4G H1 r') (h2:?a4G H1 b') (y:LX H' CL L r' b' ?e8 n n l' ?sJ):WX K CL CW H0 H' p L R nm n w ?e8 l' r ns/\?a40 H' r:=by
 ext DP;let#[dl,fl,hL,_]:=lx.ob;let#[dl',fl',hL',_]:=y.ob;let#[n1,n2,n3]:=x.ne;have kp:Kp H1 H':=Kp.x sx hL';have lz:=(?J8).x (s _ _ hL) n3 sx kp;have s0:=?yR s;exact#[#[#[tv,dx,fs,sx _ _ n1 (?V1),l1,l2,l3,l4,l5,l6,l7,?vA],#[r',b',r2,b2,y,lz,s0.free h1,s0.free h2,f3,f4],sx _ _ (Fh ?iS hL ?aC) (?F0),sx.same s0 x.fr.2.1,x.fr,?eM,?g5],lz]
def WX.right[?nK]{H0 H H':Hp}{p L R nm r1 b1 r2 b2:Addr}[?bX]{M:?rK}{l r r':?I}[?tY](lx:?a4E H ?e8)(ly:?a40 H r)(f1:?a4G H0 r1)(f2:?a4G H0 b1)[?a1T]
 (fr:V8 r2 b2 H H') (kp:?p3) (y:?a40 H' r'):WX K CL CW H0 H' p L R nm n w ?e8 l r' ns/\?G1:=by
 ext DP;let#[dl,fl,hL,hL2]:=lx.ob;let ?uX:=lx.rw;let#[bs,b3,b4]:=lx.bk;let#[jL,c1,_]:=ly.rw;let#[bs2,c2,_]:=ly.bk;have no:∀a C d f,H a=?e (?bO C d f)->H' a=?e (?bO C d f):=λa C d f e=>fr _ _ (Fh e c1.2.1 ?aC) (Fh e c2.2.1 ?aC) e
 have lz:?G1:=#[#[dl,fl,no _ _ _ _ hL,hL2],#[as,a1.keep (λo e=>?a2R ?s9 ?s9) λa ha o e=>?a2R ?s3 ?s3,a2],
  #[bs,b3.keep (λo e=>?a2R ?o8 ?o8) λa ha o e=>?a2R ?S9 ?S9,b4],lx.ne,?s9,?o8,λa ha=>kp a (lx.nn a ha)]
 exact#[#[#[tv,dx,fs,no _ _ _ _ hp,l1,l2,l3,l4,l5,l6,l7,?vA],#[r1,b1,r2,b2,lz,y,f1,f2,f3,f4],fr _ _ (?a2Z ly.nr) (?a2Z ly.nb) ?iS,?a58 f3 f4,x.fr,?eM,?g5],lz]
def Ps(i:Nat)(M:Lat.Mat):oH ?g M=if ?oE=0 then ?x4 else ?x4++[?oE]:=by
 unfold oH;rw[qg6,qb0,qg3];by_cases h:?oE=0<;>simp[h]
def uQ(i:Nat)(M:Lat.Mat):(?x4).length<=i:=by
 unfold oH;apply qa5 (qh4 _ _) ?_;rw[qa2,qd9];ext dV
structure S0[?V](M:Lat.Mat)[?nG](Nx:?D0):Prop where
 ex:∃J1,GW n ?N J1/\(∀t,J1 0 t (?y4 w M l.1,l.2))/\(∀i t s,J1 i t s->?w2)/\∀t1 s1,J1 n t1 s1 →
  ∃J2,GW w ?gM J2/\(∀t,J2 0 t (?y4 n (λi j=>s1.1 j i) r.1,r.2))/\(∀i t s,J2 i t s->∀j,j<i->t j<n+w)/\∀t2 s2,J2 w t2 s2 →
    Nx (λi j=>?iA j i) (λx a=>s1.1 x ?bB,s1.2) (λx a=>?iA x (n+a),s2.2)
section
variable[?cD]
abbrev On:Sp:=λvs H Q _=>Xy λ ?oO ?i0 ?sD=>G9 (vs=[v]) (?a32 H M) ?pI (w<=1000) ((?oS->∀H',?c0->Q (?B0) H')) ((¬?oS->∀H',?c0->Q (.bl ?cK) H'))
abbrev eT[?cD]:Sp:=λvs H Q _=>WG λ ?dH ?UN ?oO ?i0 ?sD=>Xg (vs=[?b0,v,?D9]) (?CL) (?DD) (?a37 CW []) (?a32 H0 M) (n<=60) (w<=60) (∀L R nm H',WX K CL CW H0 H' p L R nm n w ?CU ?sH ?sH []->?bN)
abbrev ES[?cD]:Sp:=λvs H Q _=>wH λ ?dH ?tM ?i0 ?sD ?pL (ns:?iG) (Nx:?D0)=>Bw ?pV (?a2O H ?CU) (S0 n w M l r Nx) (∀L' R' M' l' r' H',Nx M' l' r'->WX K CL CW H0 H' p L' R' nm n w (?e M') l' r' ns->?bN)
abbrev Pa[?cD]:Sp:=λvs H Q _=>SW λ ?dH ?tM ?i0 ?sD ?pL (U:?MF)=>Er ?pV (WX K CL CW H0 H p L R nm n w ?CU l r []) (S0 n w M l r (λM' l' r'=>∃m,?BC)) ((∀m M' l' r',?BC->¬?NP->S0 n w M' l' r' (λM2 l2 r2=>∃m',m'<m/\U m' M2 l2 r2))) (∀L' R' m M' l' r' H',?BC->?NP->WX K CL CW H0 H' p L' R' nm n w (?e M') l' r' (oH ?Y5 M')->?bN)
structure dZ[?V][?f0][?a7][?nG]:Prop where
 p1:0<f i/\?Q9<L9
 p2:f j≠0/\?KW<L9
 bl:BO n n l/\BO n n (?l0 i j 1 l)
 br:BO w w r
abbrev YW[?f0](g:Int)[?a7]:?k:=Lat.put2 f i j g ?qL
abbrev shL[?f0](g b:Int)[?a7](l:?I):?I:=?l0 j i ?q4 (?l0 i j 1 l)
abbrev TX[?f0](g a b:Int)[?a7](r:?I):?I:=?vO i j a b (-(f j / g)) ?t1 r
abbrev AR[?cD]:Sp:=λvs H Q _=>Ag5 λ ?dH ?tM (n w m i j:Nat) ?pL (f:?k)=>EA (vs=[?b0,?n ?xS,?n (j:Int)]) (?a4A l) (i<j) (j<m) (?iP) (m<=w) (?uY) ((?tR->Q .non H)) (∀g a b H',?y9->WX K CL CW H0 H' p L R nm n w ?Y (shL i j g b f l) (?a6X r) (Ie m (YW i j g f))->?bN)
abbrev aS[?cD]:Sp:=λvs H Q _=>wH λ ?dH ?tM (n w m:Nat) ?pL (f:?k) (V:?tN)=>Oy ?pV (?a4A l) (?iP) (m<=w) (V 0 f l r) ((∀d i j f l r,V d f l r->d<5*m+m*m->i<j->j<m->?uY/\(?tR->V ?bE f l r)/\∀g a b,?y9->V ?bE (YW i j g f) (shL i j g b f l) (?a6X r))) (∀d f' l' r' H',V d f' l' r'->?MH m m f'->WX K CL CW H0 H' p L R nm n w ?Y l' r' (Ie m f')->?bN)
universe e9
structure j6[?V](A:Lat.Mat)(Fin:?tN):Prop where
 ex:∃(U:?MF) (Y:Nat->?tN),S0 n w A ?sH ?sH (λM l r=>∃m,?AY) ∧
  (∀m M l r,?AY->¬?oS->S0 n w M l r (λM' l' r'=>∃m',m'<m/\U m' M' l' r')) ∧
  (∀m M l r,?AY->?oS->∃k f,oH ?Y5 M=Ie k f/\k<=n/\k<=w/\Y k 0 f l r) ∧
  (∀k d i j f l r,?O5->d<5*k+k*k->i<j->j<k->?uY/\(?tR->Y k ?bE f l r)/\∀g a b,?y9->Y k ?bE (YW i j g f) (shL i j g b f l) (?a6X r)) ∧
  ∀k d f l r,?O5->?MR
structure j5[?jW](H H':Hp)(tp nm r1 D1 D2 b2:Addr)(n w k:Nat)[?a7][?nG]:Prop where
 same:?c0
 tup:SqT K H' tp [?h nm,?h r1,?h D1,?h D2,?h b2]
 num:?a7I nm (VI k f)
 left:?a5S r1 (dT n n l.1)
 lback:?a5S D1 (dT n n λi j=>l.2 j i)
 right:?a5S D2 (dT w w λi j=>r.1 j i)
 rback:?a5S b2 (dT w w r.2)
 new:∀a,a=nm\/a=r1\/a=D1\/a=D2\/a=b2->?x7/\∃us,?a7I a us/\us.length<=60
section
variable[?jW]
abbrev Tm:Sp:=λvs H Q _=>eE λ ?oO ?i0 (A:Lat.Mat) (Fin:?tN)=>G9 (vs=[v,?D9]) (?a32 H A) (n<=40) (w<=60) (j6 n w A Fin) (∀(tp nm r1 D1 D2 b2:Addr) (k:Nat) [?a7] [?nG] (H':Hp),?MR->?MH k k f->k<=n->k<=w->j5 K H H' tp nm r1 D1 D2 b2 n w k f l r->?QH)
universe e9
universe Hb
namespace Hb
open Lat
section
variable[?d3]
def BB.bo{n W β:Nat}[?u2](hb:β<=big):?wF:=#[(h.mono hb).1,(h.mono hb).2.1]
def EI[?a5]{R0 B0:Mat}[?j]{π b β:Nat}[?a2D](hW:W=w+n)(dl:?a4R R0 B0)(bb:?a2G β (R0,B0))(hb:?LZ)(hπ:?W9)(hpg:?zX)
 (hG:∀spot (s:?aO) st,?cO->?VN->Hq W (s.1 i) st->G st)
 (hd:∀t1 Y R1 B1 R2 B2,WE n W w i G R0 B0 t1 Y R1 B1->?QP->∀j,?bT->(R2 j (t1 j)).natAbs<L9) :
 ∃I,Af5 n W i t (R0,B0) I/\∀spot st s',?cO->?yK->?D2->(?qH) →
   jR n W ?aY i (?hU)/\G st/\WE n W w i G R0 B0 ?aY ?eD (?hU).1 (?hU).2 ∧
   Ow n W w i (?hU).1 (?hU).2 ?aY 0 (?z3).1 (?z3).2 ∧
   ?a2G (?n7) (?z3):=by
 have hi:=H.hi
 have XT:∀spot,?cO->?tK<=?zZ:=λspot hs=>by
  unfold F2;exact qa5 (qc0 _ hs) (qh0 _ _)
 apply#[λspot s=>?VN/\?a2G (β+?tK) s,#[#[Ds.start H,by rw[Nat.zero_mul];exact bb],?_,?_,?_],?_]
 . rintro spot s _ ⟨p,_⟩;let ?XC:=(p.good.dual dl).row hi;exact#[w+c,O9m,h0]
 . rintro spot s hs ⟨p,q⟩ hz;apply#[p.skip hz,q.mono ?_];rw[qg0];omega
 . rintro spot s hs ⟨p,q⟩ hz h0;have KR:=XT ?s hs;rw[qg0,qf9]at KR;have en:β+?s*?f1=β+?tK+?f1:=by rw[qg0,qf9];omega
   have lA:?a3G ?AJ ?H:=by rw[p.old ?d _ ?i hs];exact H.hd ?d hs
   have lB:=p.pv ?d ?i hs;apply#[?qD q O9m,λj hj1 hj2=>#[H.lt j hj2,p.pos j hj2,xA (π:=π) ?_ O9m],#[h0,xA lB O9m],?kB,λg a b' sh=>?_]
   . rw[p.old j _ hj1 hj2];exact H.hd j hj2
   . let#[m1,m2,m3]:=p.meetAdd H hs hz hk q;apply#[?EL,m1,?_];rw[en];exact m3 _ O9m
   . let#[m1,m2,m3,m4]:=p.meetBlend H hs hz (sh.blend (p.pos ?d hs) lA lB) q;apply#[?EL,λd hd=>?qD (m4 d O9m) O9m,m1,?_];rw[en];exact m4 _ O9m
 . rintro spot st s' hs ⟨p,q⟩ hB hex;have hGs:=hG ?d s' st hs p hB;let#[e1,e2,e3,e4,e5]:=UD H p hs hB.1 hB.2.1 hB.2.2 hGs hpg hex q;apply#[λd hd'=>#[λj hj1 hj2=>?_,λm hm=>?qD (e5 d hd' m O9m) hb],hGs,e1,e2,e4 _ ?i];let#[dn,_,_]:=b6 e1 hi (e3.mono (qw3 (XT i ?i) β)) d O9m;have hh:=hd _ _ _ _ _ _ e1 e2 j O9m;rw[e2.hd j ?c]at hh;have hx:=?a50 dn.hd;apply#[?a50 e1.lt,(dn.s0).pos j O9m,?_];rw[hx];exact hh
universe e9
noncomputable abbrev JF[?V](M:Mat):Nat->(?v)->?aO->Prop:=λi t s=>Dv n ?N w i (λc=>c<w+n) M one t s.1 s.2
def Wp{n w b0 D π b β:Nat}{M:Mat}(hM:∀r c,r<n->c<w+n->?TR)(dets:Ox n (λc=>c<w+n) M D)(h1:D<=?H)(h2:n*D<=?z)(h3:b0<=π)[?a28](hbig:∀i,i<n->?LZ)(hπ:?W9)(dl:?a4R M one) :
 GW n ?N (JF n w M):=by
 apply#[λi t s hi hJ=>?_];have iD:?x1:=qa5 (qc0 _ ?HI) h2;have H:=ND hM dets hJ hi h1 iD h3 h4;have bb:BB n ?N (λ_=>False) 0 β (s.1,s.2):=Sq hM dets (λk a=>rfl) hJ ?HI iD h4 hβ hβ2
 let#[I,P,e]:=EI H rfl (hJ.good.dual dl) bb (hbig i hi) hπ hJ.pg (λ_ _ _ _ _ hB=>hB.2.2) λt1 Y R1 B1 R2 B2 I1 D1 j hj=>by
  have:=(hJ.next I1 D1).headD dets (show i+1<=n from hi) (show ?o2 by omega);exact xA (qa5 ?F h1) O9m
 apply#[I,P,λspot st s' hs hI hB hex=>?_];let#[e1,_,e3,e4,_]:=e ?d st s' hs hI hB hex;exact#[e1,hJ.next e3 e4]
def JF.lt[?bX]{M:Mat}:∀i t s,JF n w M i t s->?w2:=λ_ _ _ h j hj=>?xV
end
mutual
#check(5,[?a,?b,some,(?y0),?aM Int,.int,∀{xs:LLInt},a,if_neg,.inl,decide,(n:Int),?h ?d,.(by decide +kernel),.(by ext m),.inr,.ref,if_pos,?q rfl,Nat->Int,Nat->Nat,?aM Str,(?eC),(xs.length:Int),?aM V,(?k1),G σ H,.lst,min n w,(n+1),xs.length,∀{G:?t9},a,∀(K:W.Frag),a,(pv 0),Same,(?bM),xs.getD,?p a,(i+1),(1:Int),∀(xs:LLInt)(k:Int),a,∀(xs:LLInt),a,(i:Int),absurd,Int->Int,(?jO),(k+1),(xs:LLInt),∀{K:W.Frag},a,?H H H',beside,(?aF),?q ?d,(j+1),base,ms.map,prodN,(pv 1),spot,Bits,V.int,?q z,?ZR Hp,(k:Int),.tup,∀(φ:?R),a,∀{lf:?c9},a,G σ,.(by decide),this,sumN_one,(j:Int),∀{G:?ZR St},a,(LT K H (?K) xs),?B*?eJ,List,.(by ext aP),?aM Fd,.(by simpa using h1),(w+n),λp hp=>?_,(pv 2),FnScope,none,(m:Int),F.okZ,(q:Int),λDp A outer s H vs Q E hr h=>?_,∀(T:Fj K mg Af Ad Ah Au),a,∀{f:Addr}{fd:FuncData},a,∀(ps:?eA),a,?h z,(?zC),Da xs k,qc8.mp,∀{vs:?x},a,∀(hs:?eE),a,Br ms k,(k+i),(λ_ _=>rfl),(?dQ),Int × Int,(?hC),putI,∀{ps:?eA},a,.(by unfold one),2 ^ π,qa4.mp,(0:Int),?M+n,a.fdiv b,qa3 _,.(by simp;omega),2 ^ b,sumN_all0,?x4<?cZ,?c ?QB,n<20,_::_,2<=n,?a07 ms,plusI,?f k,?aM (?eA),wpAny,∀{A0 A1:Type}{S:A0->A1->St},a,∀{A0:Type}{S:A0->St},a,∀(fs:?e),a,.(by exact this),∀{H H':Hp},a,timesI,"shape",H D=none,"place",?aM Ms,Same.new,"number",Nat->?s,(xs++ys),(Bj _),?h h,∀(s:?W),a,.(by exact ?cX),∀(hn:0<n),a,p.2.2.2,H' D,(pv 3),λ_=>0,cs.map,bookF,mulV,Q (?p D) H',(a b:Addr),cK ms,?rG a 0,(a:Addr),(?k+1),G s H,qb2 _,Mat × Mat,2 ^ 100,face,IsEnum,∀{f:?s}{l r:?kV},a,∀{ls:?bY},a,∀{ms:Ms}(h:?eB),a,∀(f:?s),a,∀(_K:W.Frag),a,(E5 n),List.range,?rG m 0,?p b,?c o,OG ps,List.replicate,wk.e0,(?wZ),.none,(?p e),(m+1),(Bc (K:=K)),?q e,(k+j),(?l3),s.heap.objs.size,z.symm,V.ref,?ZP k,?h e,(by kernel_rfl),.(by rw[?l]),∀(lf:?c9),a,.(by exact ?bM),(ms:Ms),(?mH),?c q,#[_,rfl],?a1A p0,(2:Int),?f n,DictsN,qb5 ?I,Ht ms k,(Int.gcd t c:Int),?rQ (Cy b n tl),(?MU),[(2,1)],?aM BPart,nd ms,Cp n,(r+1),Ca xs,λD hD=>?_,(1+?k+?hE),"row",p.2.2.1,(π+2),small,[a,a],?h ne,"enumerate",(?mA),(2*n+π+2),r<=j,p.1=k,p0 H,?aM Addr,?fA hi,c<w+n,(λ_ _ _ _=>By),p0 x0 x1,.(by rw[?l,?l]),.(by apply ite2 (λh1=>?_) (λh1=>?_)),∀{A0 A1 A2:Type}{S:A0->A1->A2->St},a,.(by rw[qa0,?oB]),∀(ls:?bY),a,∀{es:?MT},a,∀{row:?e},a,.(by infer_instance),.(by split<;>omega),∀{f:?s},a,∀{us:?x},a,Nat->?x->?t9,qd0.mp,#[rfl,rfl],qb5 ?d,dets,chainB,?h O9m,?p c,(?oL),qd4.mp,Xc ps,(L:Int),(p j),(?yM a 0),(ms.length<=1000),(p0 x0 H),B a c,?a0J q,(?rU),?c ps,qf0 _,f::fs,(vs=[?K,?dA]),c::cs,(?L4),2*n+1,IntMulOk,?q h,TieAt,t::ts,(η+1),sg i,qa1 h,(?rL),?ZP 0,(σ=?qS),Reps,λn=>?j (1<n),k<=j,(?X w T P),(t j),"chain",A0->?a9,Lat.Bits,(hd j).natAbs,qd8.mp,Lat.one,∀{ys:LLInt}{t:Nat}(h:?pW),a,.(by let ?Q0:=?sB),st.lt,p.dπ,fs.getD i 0,?a1A p1,h.pos,(?HI),(r x),h.n2,b+?P,lf.getD,?p l,"table",(?zF).2,qa1 O9m,qe0 ..,X.env,λq hq=>?_,?b8+n,qe9.mp,β2+(?aL-m)*?hY,cs.getD,(?zF).1,g*a'*b',η+1+?jG,(.dK (?cS)),kD n i,.(by simp),sp.length,(a:Int),p1 x0 x1,?h q,G i a,Cv.nd,?M+a,Jg F cs,(S4 t p),1+(e:Int),h.n1,?a1K S,?c p,?c c,p::ms,π+1,?XX zs,(v*b'),R l c,((?D6:Nat):Int),?a0K p0,(2*w+π+2),?ZP ?T,B7 H vs ps,e.symm,?a0B i,?bJ+?aI,(p1 x0 H),?h4 hp,Ai e,(?gO),p.1=0,s l-w,(?cX),(p r),#[i,hi,rfl],(λ_=>none),b+?aV,(kt j),?p t,(?qJ),(?pR),Heap.SameBut,fs.length,?o h,beside_lo,(1+a),["thing"],2*(?rN),if x=j then u else s x,let s:=(?BE);?cW,(?K5),A0->A1->?a9,.(by grind),(-1:Int),((0:Nat):Int),p.1.toNat,.(by rcases ?fI hf with rfl | hf),∀{z k0:Nat}{L G:Lat.Mat},a,.(by have:=?fA hj),∀{a:Nat}(ha:a<n),a,∀{fs:?e},a,∀(F:?x7),a,∀{ys:LLInt},a,qj8.mp,p.2.1,Jc tl p,(?kH),?YQ (λa=>?xF*PB u a),vs[i]?=?jF,qd0.mpr,?m7=k,(?kN),sumN_cut,?c v,Ec π b r,mD (?A9) n,p1  x0 H,?a0B j,?Y1 S,(?OD),st.inc,Lat.sumN_one,qb1 ..,.type ?yB,x.r p,.of Ab,(v:V),Jc (?wE) e,Spoil,?a1O h1,(k,v),?w+i,λj hj=>?_,?a3 f k,.(by simpa using e),.(by rfl),?YQ (λk=>?G9),[?f a,?f x,?f y],β+(?aL-m)*?eP,AZ Eb h2,h.diag,ps.getD i dP,λm hm=>?_,λc hc=>?_,[(?aX,1)],(w-k),i=0\/n<i,p::ps,(?wT),L5 fs e i,Nat->?t9,λy x=>M x (s y),spot+1,((1:Nat):Int),?bE ms k v,ys.getD,(n-1),?a2N q,XS b ?D n tl,x c*T c c,dC b ?D n tl ?L,2 ^ π2,(∀H',?W->Q (?zA) H'),wk.going,IteT K a,Lat.Mat × Lat.Mat,?b5 z,BB.bo,F c+?hK,λf hf=>?_,h.key,?d8 n,?kL q [],?a0Q 40,(dgM d),if ?sX then x k*T k c else 0,r i a,h.2.1,s1.seq,let s:=?BE;G s,?gV ?iX [],?f i,(lf i O9m),#[h1,h2],(A:?y3),(?uW),?YA ?H2=k,h.zero,let s:=(S x0);?cW,?aI+1,Wy t k,λi hi=>?_,(T i c).natAbs,(?NZ),(xs++ys).length,(S4 t),(t k),(Ne.symm ne),Lat.sumN_all0,?h6 i Ng,(?a29 p1),?p p,s.heap,qj7.mp,v::vs,s.heap.objs.size+1,y.r p,(O9m),ih O9m,wB φ fs,(us:?x),(lf j hj),?a2B A0 A1,Bs (?kN).length,Bs y.length=k,Mj A H us ps,σ=S x0,"other",?XX wu,?h h1,(?p7),(?b4).length,p0  x0 H,σ=?BE,h.2.2,(?cM),#[m,rfl,hm],?a0K p1,(Int.gcd t ?nX:Int),?aI+2,(?sR).length,how%3,(L6 n),#[q1,q2],?a2N ?iX,Hr H v p,(RE Eb h2),Value,.(by rcases ?fI hc with rfl | hc),.(by rw[?b2,?l]),.(by rw[?a8,?Z]),.(by unfold nd at h;rw[qd3,qi1]at h),∀(n:Nat)(tl:?e)(i:Nat),a,∀(h4:?w1),a,∀{P:Program}{w:World},a,.(by rw[?r,qd7]),∀(K6:?l3),a,.(by simpa using this),∀(D:Addr) (H':Hp),a,∀{as:?eT},a,∀{q:?bC},a,∀{tl:?e},a,∀{v:?s},a,∀(us:?x),a,?TK i [],#[#[old,h1],h2],#[r1,r2],?mI i a ha,λp hp=>?fF,φ p.1,b≠D,(lf:?c9),false,qf1 ..,(row++?dD m 1),(?a23 p0),(j:Nat),?a3 (?w0) j,ms.getD i (0,0),Ak ZU.symm,(?r6),?Z8 p1,Q ?b9 c,"list",.(by simpa using h),(?AK).1,(kB n+6),?gV ?iN [],D7 zs _ ?d,Xf xs k cs,insT t ?a5 ?qK j,Rep.same,(?c5 n ms),ys.take,(?hR),wI ns ms,?bK+j,?b5 h,(i-r),qa1 ?d,φ ?fM,let s:=S;?cW,s2.trans,(kB n),2 ^ i,(λk=>?pV),?h h2,X5 ys t,?h hi,1+?hE,Bh xs ?t6,cL k ys,zt1 ?lW t,(n-r),let s:=?qS;G s,hh.self,Jc (?i2) p,xs.take,?H H H1,λt ht=>h t (?ZY ht),?a1S η n,p0 x0,"__init__",λt ht=>hp t (?ZY ht),p.toNat,(?hM),Fm f n,L5 fs k i,Ov n l,p.π9,s x=s y->x=y,F0 n j,"backs",#[?s1,Ab,rfl,?aU,rfl],(?Z6 ?G),((m+1:Nat):Int),p2  x0 H,qi0 ?Y O9m,?mV->?wO,TI.get,[?k],[?xB],hp.objs.size,#[q0,q1,q2],q.symm,Br ms j,qb8 ?d,(?r9).natAbs,?X w T P k c,Ai λi _=>?_,x.h q,K9 ys t,(?eE),?a0Z n,Xp ps,(x k).natAbs,t+1<ys.length,(?kK),(?eC).getD,(up b2),qm6.mp,(?a23 p1),?kL ?rK [],PB k a,?a0K p2,(w+a),v ?lQ,?Y3 ds,Wy t q,sameC,?Z8 p0,A0->?a2B A1 A2,λ_ z=>?N3,λk=>x k*T k c,(p2 x0 H),p<?w,p.getD j 0,p.getD i 0,(s x),Nh xs ms i,(?y5),(upd H D o),(?a29 p2),(u*a'),p.1=1,?o5 t,ms[i],st.pos,?a1A S,0<=p.1,y k i,K.zero,(H a=?sK),y.h q,?JE b 0,(xs.map tI),(1+j),j=i+1,.(by cases h),qa1 hi,ps.map,ps.foldl,Bh xs c,wk.kl,qf2 ?d,R j ?gD,(?zY),2 ^ ?C,.(by simpa using z),wB (λx=>Oq x (?cT)) fs,(Da xs ?a0).getD b 0,β-?g3,sp.getD,#[a,b],?Y9 c,Oq (?YD 1) p,(t+1),?gV i [],.type ?eN,?P%2,(λc hc=>?T9),let s:=(?qS);?cW,(?l1).map,if a=b then 1 else 0,qa1 hj,Wo n r kt,Ho ms fs n i,ns.map,?f v,A0->A1->A2->?a9,?f p,(?a35 Gd),(up b1),?cA hD,Vk U f W m s j,bV A H v p,qp6.mpr,if k=j then 1 else 0,(?AK).2,.(nomatch hm),(Da xs j).getD,st.zero,B9 ?bD,?b5 hp,(u1 j8),F.bel f hf,?yM j 0,ps.length<=40,(W8 n g f),(?wE).length,(k-1),(?h9),?c ?hA,D7 Gs _ ?d,(H b=?sK),λx=>M x (s 0),(?aL),D7 Ls _ ?d,Oq _ p,Mx xs k n,(vs=[?K]),sp.map,?a1A p2,h.told,[?f (a-?bL*b),?f (x-?bL*u),?f (y-?bL*v)],c+1<=k/\k<r,φ f-?m3,?XX ys,?x4<100,"rows",Q (?zA) H,(?a2Q m),"hole",st.red,[(p,1)],?q q,#[?_,rfl],St->?a9,.(nomatch hf),p.2*?I4,#[a',b',u,v,ea,eb,uv,hg,el,pa,pb],V r l,p2 x0 x1,#[?k1,?k1,?k1,?k1],(qh0 _ _),dg.pos,Aj f a,∀(h:Ed n w m E A P PB Q QB f)(hl:?NE)(hr:?RG),a,∀{zs ks:?t}{Ls Gs:?PB}{fs:?cC}{lp rp:?VN}{ls:?bY},a,.(by rcases mem c hc with rfl|⟨i,i0,hi,rfl⟩),∀{A0 A1 A2 A3:Type}{S:A0->A1->A2->A3->St},a,∀(h:?a0S G),a,∀(hs:?bY)(lf:?c9),a,∀(s:Rj b H H1)(hb:H b=?c (.dK m)),a,.(by rcases ?fI hm with rfl | hm),.(by rw[Um,J0,J0,xx,yy,xy,yx]),∀(ht:∀f∈tl,?UF),a,∀{kt:?t}{hd:?s},a,.(by let#[m,h1,h2,h3,h4]:=h),.(by rw[?b2,?b2]),∀(k:Int)(g f:?R),a,∀(h:En O H vs lf),a,∀(h:Fy D H vs ls),a,∀{ms:Ms}(h:nz ms),a,∀{ms:Ms}{k v:Int},a,∀(H:Hp)(d:Addr),a,∀{A:?y3},a,∀{p:?bC},a,∀{v:V}{p:BPart},a,∀{k:Int}{m:Ms},a,∀{xs ys:LLInt},a,Turned,[?f b,?f u,?rW],((?fJ:Nat):Int),w6.extBut,(a l:Addr),DI i*(?bO) ^ i,λx=>M x (s y0),q.1.toNat,List.Perm.cons,x.lback,Us k w Q p,Da xs ?sI,hp j O9m,?p2+f n,det k (Vk U f W m (λx=>?iQ) ?a0),H a=?bR/\?KK,(?lX hy).2,ls[k]?=?fS,if ?gO=e then ?kF+1-?iP else ?kF,Da ?v k,Id _ _,p.1∈?b4,w5.extBut,ys[m]?=?dY,λx hx=>?_,Jf ms k n,.(by rw[Ak ne];exact h),["self",?t1,?p8],its.toArray,?ZI K.pos,2 ^ 10,A0->A1->A2->A3->?a9,qs9.mp,#[p,hp,rfl],tY Eb h2,"lifts",#[f,hf,rfl],λk hk=>?_,((n / m:Nat):Int),ChL.nil ..,qi3 _ O9m,h.dn.1,(qb9 hk).symm,Array ?mV,JO xs k p,sp _ _ Fa,Jc (?pY (1+n+a) []) ?fH,?bJ+?P,qb8 hi,(L r ?iB).natAbs,(σ=S),?dD n [],if ?vW=0 then [] else VR xs ?T (r.1 i),?YZ v y,u*a'+v*b',kP ?nY (?B),if j=i then 1 else 0,{ cls:=?rM,data:=.fields #v[?dG,.bool ?nK,?p ?dN,?xV 0,?dG,?dG] },wB ψ fs,?m7=k+1,Q .non H',?UJ f k0 i,p.2*?nH,lf.set,i*n.natAbs,λx=>f ?qI,∀x∈xs,x.length<=4,2 ^ bookF,(o4 o5:Option V),DZ K C B p xs ls,Fm g n,lookI ms k,x.right,Jc (?a0B ?L) p,λy=>z y.symm,(?lX hn).2,(R k ?lQ).natAbs,h1.perm,λx a=>R x ?q5,?a2N ?p0,[?gX,"j"],Aj f (a+b),DI n*2 ^ n,r.length,x.rback,.(by rw[qa0,qa1 hq];rfl),λc hc=>(?T9),?ZI ?x2,#[λq hq hk p=>?_,?k9,?_],?ZR Shared,"width",qc8.mpr,ps[i]?=?hP,c<=k/\k<r,?ZP ?aA,2 ^ b2,?h6 x Ng,?a3 f' k,["a","one","b",?mB],?kL t [],El n n,Aj (λb=>Q' y b*QB u b) w,O c=none,K.head,λf hf=>h f (?ZY hf),t.2.natAbs,Aj (λa=>v a*?VJ) w,2 ^ η,Fd->Int,L5 q f n,Ec π b i,∃z L G,?ZQ xs 4,"piece",(t:Int),#[ta,vs,rfl,hT,rT],?a24 p0,P' x a,?bE ?dF ?eG v,xs[m]?,t.hand,(dlI e),#[cs,e,hh,s],k D H1 hD s1 Fa,[?cB,?gE],?a2N ?GA,(?bI e).1,Jg F ds,H c=?dY->H1 c=?dY,s c hc,(M5 n),Wa A H lu hs,(?a2N i).length,rawInt,Os a ?D n,λx=>M x x,β+?jG,?u7 xs ys os,.(by omega),?a0U ?eK,?a0Z d,?ZR Addr,(ps:?eA),kt ?a5,?jB O9m,mD B n,p3  x0 H,λk=>B k a*R k ?gD,?YQ (λk=>?q3*?pO),"tuple",(ls:?bY),[none,?c 1],?M≠0,hs.getD,λc=>Aj (λv=>?MS*Q v c) w,λe h=>?_,(?pR).getD q [],?a3 f n,?w+?aI,L j ?iB,(?b4).getD,(L N:Addr),.(show k+1-1=k by omega),?aM ?mV,let s:=(S x0);G s H0,(?d8 ?kM).map,λi=>?kQ,T.n_isinstance,qr6.mpr,Fm ?oH j,(fs j),?cP w (gT m G B) v i,h.self,Jc [x,y] e,(0<=k),?cA hp,?q hi,K2.st.good,Str->Option ?mV,j<=spot,s.1 j (?o2),Lat.EuI,?XV Gp k,let s:=(?hO);?cW,.bl true,Ai ?lL,?i rfl,if u<m then f u*?x0 else 0,?YQ (λk=>?qU*?q3),Dk n row,?a0K p3,wB _ fs,if ?eR then(p.1,v) else p,2 ^ d*?zW,?YQ (λc=>Aj (λl=>(RB l a-?k2)*R l (w+c)) n*RB i c),?q h1,zU n Eb h2,Dl m z L p,Da xs ?T,e.natAbs<=?bH,lf.length=xs.length,IsEnumOut,Bz P w K mg ?a1 Eo k f fd ps sp,?a3 (?w0) k,p.1<?w,F.binds hb,(?Q2+1),Jf ?fR ?i7 (?hB),?ZP j,["spots",?gE],i<=ms.length,tl.length+3,?fE xs ?aA ms,s1.trans,Ie k0 f,?c (?K),π<=8990,Aj (λu=>?j9*P u c) n,#[hp,g,d,tk,os],λr=>B ?eD,B7.put,#[_,rfl,q2],hh i b,(1:Int).natAbs,Ov w r,?UK b=?dB->h'.get? b=?dB,#[k1,g,d,tk,os],h.sm.turn,#[i,_,rfl],?b5 hy,Dk n ts,["gauge",?gE],Aj (λk=>x k*?X w T P k ?iF) j,"isinstance",ChL.piece,?a2N f.toNat,?g4*φ ?i7,let s:=S x0;G s,q.1<?w,Lat.turnL,?Z8 p2,s.heap.IsTuple,qf6 ?Y O9m,2 ^ 110,2 ^ β,s.eqv n ?I,h.dn.2.1,((?w1)),(?p C),["size","i"],T.n_range,∀j c,?gB->j<w->c<w->(r.1 j c).natAbs<=?wU,?h ?UY,λz=>?_,[?f (-a),?f (-x),?f (-y)],"bool",2 ^ ?oP,starEach,?ZW S,?YX p0,S x0 x1,x.left,w7.extBut,bs.any id=true,(?o7).natAbs,(?CX).2,∀(st:?zN)(hB:?TF)(b2:∀q c,q<m->c<w->(B q c).natAbs<=2),a,∀(ge:?a0F ?lW n)(gj:s.heap.IsTupleIter j t n)(gt:?RH),a,.(by have e:?nQ=?qQ:=?L7),∀(hd:∀x y,x<k->y<k->?Z5 (P' x) (Q' y)=?IW),a,∀{A0 A1 A2 A3 A4 A5 A6 A7:Type}{S:?YH St},a,∀(z k0:Nat)(L G:Lat.Mat)(f:?s)(l r:?kV),a,.(by apply(?a01 pr)),.(by apply(?a01 p)),∀{a:Int}(h:?DX),a,∀{xs ys:LLInt}{os:?e}(h:?xZ),a,.(by wp_walk using wpAny_loadPart' q1,qo0 gt),∀{sp ns:?e}(hl:ns.length=sp.length),a,∀(K:?DG),a,∀(e0:?x1)(e:H c=?c ?t3),a,∀{A P PB Q QB P' Q':Mat}{f f':?s},a,∀{st:Stmt}{ps:?u}{k:Nat}{sp:Sp},a,∀{e j t:Addr}{n:Nat}{vs:?vE},a,.(by intro z;let#[p,hp,e]:=ql9.mp z),∀(h:L82 xs a c0 c1 c2 c3 low high),a,∀{mg:?z4}{base:Heap},a,∀{prog:Program}{w:World}{A:Around},a,.(by rw[?h λz=>ne ?dO,qg2]),.(by rcases ?j5 hp with h | h),.(by unfold lev at la;simp at la),.(by unfold lev at lb;simp at lb),.(by rw[?g0,?GZ]),.(by exact ?pD),.(by let ?iC:=?sB),.(by let#[q,hq,rfl]:=?sB),.(by rw[?Z,qd7]),∀(b:?XV aI j),a,∀{n:Nat}(Eb:?bS)(h2:?bU),a,∀(hD:H D=?bR),a,∀{q:Nat}(hq:?fQ),a,∀(he:?zP),a,∀(A:?y3)(H:Hp),a,∀(h:?e3 O H as lf),a,∀{α:Type}(g:Nat->α),a,∀(hp:?uO),a,∀{a:Addr}{xs:?x},a,∀(g:?E8),a,∀{f:?cC},a,S x0 x1 x2 x3 x4 x5 x6 x7 x8,Il ?cD k ?lO a' row (D+0),λ_=>Lat.one,?YQ (?qD),λn=>D.lst (Fg n),?ZW p0,(?a0I ta hT),?MV i a ha,(qb9 h).symm,?a22 S x9,?d0 a ?bD,(qb3 ej),(mW H d),.(by rw[qa8,qa8,h.1];rfl),(σ'=?TI),wpAny_attempt,xs.length+j,(?k+v).natAbs,Nat.log2,x<cs.length,sx.mix sy ..,[?gE,?c8,?cB],?a2N ?uE,#[i,hi,e],(ms.any λp=>?j (?eR))=true,k3.push ?NJ,Q6 n ?aQ w r kt hd ?gC,ys[j]?=?c y,L<=xs.length,?a1E (spot-r),qk0 (?w9),bB.disc (?XT 0 n),#[its,rv,p,hz],(?sQ-?j7),(p:Addr),let u6:TS:=Aq t6 u7;?KO,λy i=>?LG,(La ?v8),((i+1:Nat):Int),K2.st.st,T.n_tuple,λx=>f (?T4),I.tuple hq,∃m:Nat,a=?aV/\?xH=?c [],λp=>?KC,QB ?b9 c,φ (t f),s2.seq hb,hh d ?d j ?d,Aq t4 u5,upd G2 pr (?aB [?f j,?f (M i j)]),λr c _ z=>z.elim,Oq (S4 t x) p,(as++bs),Fl n w r E e T,?a1E (i-r+1),λ{x y} hx hy z=>?_,λt ht=>?PD,PEw X e te,.(λz=>by rw[z,hd]at h;cases h),Mx xs k ?D,#[a,rfl,sq],Et K n n st f fd,qc4 _ rfl,λn=>?LU,?qR r O9m,?XP p0,(?k7).2.2.1,?Y1 p0,Ed n w k D A l.1 l.2 r.1 r.2 f,λx y=>M x (s y),Aj (λj=>?N5*det n (W6 A j)) ?C,(p4 x0 H),mem y hy,hP i (c-w) hi O9m,"quotient",List.map_id,.(nomatch hp),(Uq _ n),i<l.length,s3.trans,Aj (λa=>?hH*?fP) m,k x0 h0 h1,λj hj=>O9m,Ox n (λc=>?eV) (?X w A one) D,wM Eb h2,(?MU).length<=ms.length+ns.length,?a1A p3,?p3+1-?iP,Fm (a 0) r,gp _ _ Ct,?a1D H',λ_=>?SI,λj h1 h2=>?_,SqT K H1 a xs,?YQ (λa=>P x a*?l6),#[a,us,e,n,h1,h2],let u8:TS:=Aq t8 u9;?I8,Vq ?I q hq,Aj (λi=>?AQ) ?iK,λp hp=>?EV,"one_row",hk k O9m O9m,Jc (?jJ) p,?bE m k v,cY n i m,?ZW p1,λj=>?vR,Pv i σ H,Lat.Straight,upd (?YP 0) N0 (?aB [?rY,?f 0,?f 1]),#[a,vs,e,q,r],as.drop k,?w6=none,?ZP ?a0,h.2 i v e,h.ok.z p hp,?ZO (λc=>c<w),#[a'*b',?iU],"shared_divisor",#[_,ge,rfl],(?b8).natAbs,?aL-(m-1),K1.st.good,.(by have:=dg.mn;have:=dg.mw;omega),#[a,b,rfl],.(by simpa using e2),y k l*?q3,(?nQ).1.toNat,q<ys.length,h'.IsTupleIter,(d i*?UL),(ns:?e),?Y6 p2,λt=>Dv.start _ _ _ _ _ _ t,i<as.length,List.pairwise_append.mpr,D7 ks _ e,?cD[m]?=?c [],beside_hi,Aj g ?C,wB g (?jJ),?a1K p0,?Y1 p2,En O H' vs lf,∀f∈y,?RC,Mx xs k ?C,S4 t (S4 t x),Nat->Bool,(?a2N ?MN).length,(?hJ,?M),wB φ tl,ls[i]?=?fS,?q h.symm,Nat.mod_lt,s1.turn hD,?a2N n,(?a2D hk),Lo xs ?a0,?H H G',(σ=?BC),Ec π b ?L,det n (W6 (Ge A ?L) j),?X w T one j (s l),ms.length<=1000000,?xY+?DJ+(?a15 spot+3),.(by simp[plusI]),xs[f.toNat]?,(ps++[p]),?h7::?gY,?YQ (λu=>?j9*?zD),TN ht ?d ?d ?d,Bh xs ms,?cN (swC t),"is_whole",(2+v).natAbs,?a0J i,bW n r i kt (?Q3) s.1/\BB n ?aQ (?rT) (?rF) (?xY+?U9) s/\?OH,λr l=>?X w T one r (s l),g.trans gp,Jc (?J (?sE).toNat []) ((?uI).getD i 0),det k (Vk (?VC) f (?LK) m ?mJ 0),λj=>?j (Bs (?a2N j).length=k),"column",ok _ O9m,#[u,v,e],?oW=?jG+?IE,Br ?gR e,λx hx=>O9m,p3 x0 x1,?a1X h e,?XP p1,?ZQ xs n,[(?bK,1)],Br ms p.1,m<sp.length,h'.2.2 _ a ha,Bool->?a9,let u7:TS:=Aq t7 u8;?DP,.(λx hx=>nomatch hx),.(by ext WC),λf' hf'=>?_,Ov w (Q,QB),(?d8 (i-1)).map,?a1E ?oP,h.2 i v ps e1 e2,det k (Ge (?K9) i),((n%m:Nat):Int),setField,x.natAbs<2 ^ 101,let u2:TS:=?S8;?SL,Ta ?a0*A 0 ?a0,(β+?eP),Nat->?e,Aq t5 u6,F.low f hf,(lu wu:?x),?JR<=?Q2,?a19 k row,ns.length*(2*?cZ),?YQ (λa=>P x a*u a),?a3 f ?dI,if x=y then f' x else 0,a'=a\/?fK<=a',Reps.x s hb r,?g9 K H us ?qZ,UF n w D π β π2 β2 b2 A m M l r,#[Fa,sz,?H1,Ab,?_,_,rfl],?c (?vW),.(by simpa using hm),blend_row_ne O9m O9m _ _ _ _,λj c h1 h2 h3=>?_,this.2.1,(xs++zs),0<=p/\?qF,look m q hq hlt,λi j h1 h2 h3=>?_,?xC ∉ ?q2,λj:Nat=>(?bK+(1+?aI),-1),.(λz _=>by rw[e]),(?zO).getD,Di (ID hb),?gG z ?bB ?cO L,β+?OW<=big,∀t∈m,?bQ,λy a=>u1.1 y ?q5,λa=>if a=d then none else H a,Kf hn EC,DI i*?oG,?Z7 (pyNext ?dH) Q,["old","new",?ET],λk hk=>h k O9m,(?oO).objs.size,Fm ?oH r,?a2M A i,if b<p/\p<b+n then p-b else 0,?ZI h.ge,?cP w B (Q ?b9) x,?Z5 (P y) v,t*?nX / ?mM,upd G p (?aB [?lB,?dA]),?YX p2,i=vs.length,?Y9 ms,#[f,fd,a,b,F],ms.length+1,?d0 b ?bD,iW Eb h2,Il xs k L a row D,(hs:?bY),?Z8 p4,λx y=>?ZV (s' y),"is_straight",(lf++[m]),p.map ?lP,(?o7 / d).natAbs,mD (λr=>?vK) i,D.nx σ H,qi1.mp h,JU _ b n t0,t.lv j hj,#[t,ht,rfl],B7 H us ps,?YQ (λk=>?l5),List.map,?Y1 p1,let u5:TS:=?IO;?LI,.(λt ht=>by rw[?h4 ht];show ?AD<_;decide),?rN=0\/?rN=1,p4  x0 H,?XP p2,(iV H d),Xf ys k cs,h3 j b n e1 e2,?mI i a e,#[D0,D1,D2,t1,t2,t3,u0,u1,u2,u3],#[a,b,_],λi a ha=>?_,(?ZH ne),Ky xs c _,?Y1 p3,ChainTo m m f,.(by ext bN),∃p,Us k w r.1 p,det i (fV V Z i),.(by ext f1;rfl),∀x0,?AR,["j","i"],j<p.length,hs9 j O9m,#[o,q1,q2],x j*hd j,BV xs k ps,[?c6,"faces"],Aj (λb=>?AC*Q y b) w,Et K n q st f fd,let u4:TS:=?E3;?SG,#[cs,e,hh],λu y=>?x0,?a1A p4,"pieces",λx i=>?FD,.(show ?kI-r=(spot-r)+1 by omega),Ie ?bB v,(?d8 ps.length).all,#[_,b,eb,hb],Bh xs ?gR,cs.length,?j (n=0),?YQ (λj=>g ?a0),{ s with heap:=h' },?YQ (λx=>PB x b*?IU),(tab j z),D7 rp _ e,λy x=>M x (?Y0 0),[a,b,c,d],Eq.trans,#[a,b,c,d,rfl],sumN_fst,#[z,k0,L,G,f,l,r,bl,rfl],WU Eb h2,.(by simp only[qe0]),"start_of",k2 (?kI) ?I,[rS ta,o1,o2],(ms ns:Ms),.(by simpa using e2.symm),[?c8,?cB,?gE],#[hi,b,rfl,hb],#[x,hx,hk],List.Sublist.map,?a2M A' a,let s:=(?jK);?cW,(A i c).natAbs,Int.dvd_zero,BB n ?aQ (?rT) (?rF) (β+?x9) s,?a0K p4,ms[i].1.toNat,?kO::?yR ?yS,∀y∈ys,Bs y.length≠k,w2.extBut,#[j,hj,ej],Aj (λb=>Q' y b*QB v b) w,?aM Expr,?bW ms ns,h.dn.2.2,(a h l:Addr),Fm (a (c+1)) n,.(by simpa using e1.symm),Aj (λj=>?yL*Z j l) ?eD,(?q0 h).1,.seq vs n,(one i j).natAbs,.(by cases z),(?lT).h (?rE),Ta j*A 0 j,B j a*?r9,let u3:TS:=?QV;?RQ,qq1 λi=>?_,?zT*f (s k),Ed n w k E A P PB Q QB f,λt ht=>?_,[?c8,"old",?cB],(Lo xs k),∀a b,a<n->b<n->pT n PB P a b=?rR,.(show((j+1:Nat):Int)=?lJ by omega),List.getElem_inj,∃x l,cs=x::l,us.length=ps.length,{ cls:=?jP,data:=.seq #v[?O9,x] },π2<=8990,g.1.toNat,∃x y,x<k/\y<k/\x≠y/\r x=r y,?Y6 S,wD n w A D,"across",∀m∈?gY,1<m,[none,none,?c 1],λc r n1 e2=>?_,(h n O9m),λx hx y hy z=>?_,?GC j t ?C,#[a,b,c,rfl],λx y=>?ZV (s y),?a2C S x5,∀t∈row,0<t,λx hx=>h x ?d,?ZI ?gQ,#[i-1,O9m],bs.length=ms.length,Br ?fR ?i7,h'.objs.size=?lZ,Int.dvd_mul_of_dvd_left,PAw X es t,β2+F2 π2 b2 i<=big,?f n tk,gT m G B a c,LM K R vs H1,#[?vC,?B0,?R9],?a29 p0,ys[?lK]?,#[n-1,O9m],qc0 _ (Nat.sub_le _ _),∀j,j<i->(s.1 j ?gD).natAbs<L9,λi=>r.1 (k0+i),f (s x0),(tab k z),"level_of",?bE ?mE ?eG (2+v),Wy t m<k,Good n ?aQ w n ?gC PB R RB,∀t∈?rL,?bQ,.(by rw[←Ab1];exact ?jR),hk1 _ _ nab.symm h,(?rV ?a7),(?b4).zip,hall2 i' O9m,(λe=>?_),F2 π b i,?a04 1 g,Ta ?L*A ?L 0,"is_list_of_few",?JX::?s6,∀j y,?DH->JP (xs++?o5 j) y,(xs++(ps++?e7)).length,#[bs,h1,h2,h3],?a1K p2,L5 fs f i,(L6 n).set ?r0 (?OM),(?xN).length,?ZP ?sI,hT i c hi h,Os a b n,Nat->Lat.Mat,?a04 k m,.(nomatch ht),ψ f-?vT,if x=y then d x else 0,(Lo xs k i j).natAbs,?Y6 p1,∀t∈ns,?bQ,λj c _=>?s9 j c,p0  x0 H0,λq hq=>Gf ?B7,Fm ?oH (r+d),?YB H',"faces_agree",#[v,vs,e,hv,hr],Ce.start _ _ _ _ _ _ _ _ _ _,Tz (m:=j) ?d,?Y8 g f,?qR j hj,"levels",ys.drop (t+2),w3.extBut,.(by simp at z),["j",?cB,"i"],.(by simpa using hf),#[j,hj,rfl],?ZR A0,?a0Z r,?h9+?oA*?g3,wpAny_callSpecial?_slot,#[x,y,hx,hy,e,ne],.(by ext dT),b'*f j / g,λT1 hT1=>?_,#[a,us,e,h1,h2],?kL j [],(?A us),VI w (f i),#[?k8,?FI],jP D nm r1 D1 D2 b2,dC b ?D n tl i,#[c,q1,e0,e],hs q _ e,λi=>r.2 (k0+i),i<vs.length,(z▸qb3 hj),if e=1 then 1 else 0,#[a,O9m],TI.mk ?_,?a3 (λr=>f ?eD) m,spN xs k i,.Name x pos',?qP++(?wY::?q2::?PV),Ol H vs ls,#[_,_,rfl,rfl,_,_,rfl,rfl,_,_,rfl,rfl,_,_,rfl,rfl,rfl],(?aB vs),Aq t3 u4,i<sp.length,mainGlobals,?aM Stmt,Ht ?o6 k,(?fU).getD,#[rfl,rfl,rfl],?gG z ?bB ?cO G,#[b1,b2,b3],?tH i O9m,Br g ?fH,XQ n Eb h2 a ha,p.1.natAbs,row.length+m=D/\WH row/\?S7,λi a ha=>#[(?CX).1,?_],c.r p*c.d,?rB*e.natAbs,f=a\/?fK<=f,Br ns p.1,(?pU).filter,?YQ (λq=>if ?jC then F ?aX else 0),∀a b,a<w->b<w->pT w QB Q a b=?rR,?AV t vs,g.sq.row0,ms.length,#[c,e1,e0,e2],Ov n (P,PB),?a1O h2,λi j=>?vR,?b4++Da xs l,?Q h O9m,let u2:TS:=?S8;g x σ H λσ1 H1=>Aq t1 u2 D' σ1 H1,Nb (hp t ?S) h1,∀{n:Nat},(∀x,x<n->f x=g x)->?yJ=?a3 g n,h.2 i v p e1 e2,λx=>?j (Bs x.length=k),let yQ:TS:=Aq oZ u12;let oW:TS:=Aq HQ yQ;let u9:TS:=Aq t9 oW;?FF,?a02 D D2,λx y=>M x (?Y0 0),hok q (qb3 hq),λz=>?N3,SqT K H a xs,(?bI ha).1,p.2.natAbs,(?d8 i).map,∀p∈ps,JO xs ?aA p,qa5 bl.zm (qa5 (Gc _ _ _) K6),λn=>?j (n≠1/\n≠0),∀t∈row,1<t,Aq t2 u3,#[#[_,h],this.1,?J6],ls.length=4,∀x,x<N->0<d x,q.2.natAbs,∀b,?wG=?tI+?VL,[?c8,?gE],qf3 _ O9m,let u3:TS:=?QV;?IK,?sR++?pG,(?gJ,Lat.one),"add_at",h2.same s,Aq t1 u2 D' σ H,#[_,rfl,_,rfl,rfl,_,rfl,?_],x m*T m c,Og (c0:=[]) (e:=0) ?b3 (λf hf=>?tA) (?o rfl) ?I9,Br ?mE ?eG,.(by rw[qa8];omega),?Z8 p3,λi=>f ?b9,h.IsTupleIter,wB φ (fs.map t),T.n_enumerate,λq=>z ?pK,(wu:?x),(?AP).length,(?A4).filter,(one,one),λVr=>Vr _ _ ?fB,?a1O h3,deps (?a2 ?CU),if x=x0 then s k else s x,(?H B H),I.hok a _ ha,F.entry_enumerate_next,?d0 f hf,.(nomatch hc),λc hc=>h c (?ZY hc),["left","right","a","b"],∀p∈ps,SI ?D p,#[_,rfl,rfl,_,rfl,?_],?Y6 p3,∀q c,q<m->c<w->B q c=Aj (λi=>L i q*T i c) z,Fm (a 0) m,if i=j then 1 else 0,[iS n,iS p,rS L,rS N,o4,o5],(?rE).toNat,(L6 n).getD,(?bI hj).1,det n (Ge (W6 A ?a0) i),∀p,Jc y p=0,CZ ms p.1 p.2,∀(j:Nat) b n,bs[j]?=?c b->ms[j]?=?c n->?nI/\?a2A b (n.map ?a7),[?eH,"j"],#[p,hp,hl],.(by ext bG;ext C5),PE X e t,"numbers_at",(qb3 ei),#[(Di h).1,(Di h).2.1],?a1O h4,∀x0 x1,?l9,Jg F (cs++ds),LH ?v ?sG lf,l.getD i d,?Y9 m,hs x O9m,s1.heap.objs.size+1,CK ns ms h1.n h1.z h2.n,?a2M A a,?a1K p1,?X w T P i c,?a1E ?oA,(sD ht k _ _).trans,#[q,hq,eq],prodN_congr',Oq x e-Oq y e,out _ _ _ _ c hc,f<b\/b+n<=f,?YX p1,Ff hx hy ne ?JD,Aj (λy=>?vO*Q y c) (k+d),Lat.numAt,s.heap.get?,Aj (λb=>?AC*q b) w,?YQ (λk=>(x k-?s5)*R k c),?ZW p2,Rd H a ?hA,λj _=>?qR j,(?i3).toNat,VR xs k v,#[c,O9m,h2,h3],?bW (Jf ms p.1 p.2) ns,vs.length=ls.length,ds.Perm ds',qc0 _ O9m,?zR h' e j ?cV x ?dN,λz=>h ?dO,["one",?mB],(?k7).2.1,Aj (λl=>(RB l a-?k2)*?hV) n,(?bL).natAbs,{ s with heap:=h',toks:=s.toks+1 },?Y6 p0,?dD ?kM 1,#[?s1,Ab,rfl,?aU,?aU,rfl],s _ _ (λz=>by rw[z,hb]at h;cases h) h,λy hy=>?_,hk1 c r n1 e2,?yJ*f n=?a3 g n*g n,.(show(?vI).toNat=i by omega),λx u=>?j9,?f (n*p.2),.(by rw[qh9];grind),#[p,hp,hf],if ?d9=k then c else 0,p4 x0 x1,#[?zA,H,I,rfl,q],QB ?b9 a,hk1 c q z e2,Aj (λi=>f (a+i)) b,Oq x ?hL,Nat->?kV,(?bI e1).1,.(by have G:=F.agr ?bD;have e1:=G 0 1 b a _ _ ?Y rfl rfl gb ga;have e2:=G 0 2 c a _ _ ?Y rfl rfl gc ga;have e3:=G 1 2 c b _ _ ?Y rfl rfl gc gb),∀(g:?E8)(K:?DG)(s:?OO)(st:Dl ?aQ n R t)(tab:∀j,j<r->t j<w)(ker:∀j,?eQ->j<n->t j=kt j/\?r9=hd j),a,.(by rintro zs τ G1 ⟨s3,dH,hzs,_⟩;apply#[D,_,rfl,?i #[.of dH,?Q8]];have s4:?H G1 (upd G1 T1 (?aB zs)):=?cA hT1),.(by let#[q,hq,rfl,rfl]:=Sx hx;have hlt:i<ms.length:=(?bI hq).1;have sp:?H H1 (upd H1 p (?aB [?f q.1,?f q.2])):=?z1),.(by let#[h1,_]:=Kf hn (row:=ts) ?oZ;let ?tC:=?RR;rw[el,←ea]),.(by apply ?CW;apply Oz (?n) ?_;exact#[_,rfl,k _ _ (Same.refl H) hu]),.(by have e:ps=[]:=?vD;subst e;exact#[?aF,#[λm hm=>(?s7),λp hp=>(?EV)],?FI]),.(by let#[A,ha,ga,la,ca]:=?D0;let#[B,hb,gb,lb,cb]:=?K4;let#[C,hc,gc,lc,cc]:=?d0 c ?bD),.(by have c:=?a1L 2;rw[?a12 2 ?d,?h ?Y,?Z]at c),∀(p:?RW)(hA:∀i c,i<n->c<w->?MJ<=2 ^ b0)(dets:?F2),a,.(by show(if ?yK=?jX then ?M else 0)*_=0;rw[?l,qg2]),.(by apply ?o #[a,?cS,ha,λhnd o=>?_];apply#[_,rfl,a,o,?cS,rfl,Ab,?eF];let#[xO,ZU]:=Z7 hD),.(by intro Ae s σ H xs us Q I r h;let#[a,vs,rfl,ha,q]:=h;let#[u,v,rfl,rx,rt]:=X0 r;cases rt;cases rx),∀{xs ys:LLInt}{k a a':Int}{row:?e}{D:Nat}(h:?IS)(ha':a'=a\/?w<=a'),a,.(by show ?YT 2 _;apply qa7 (qi9 ge rfl (x:=?p j) rfl ?_)),.(by intro X hP hw hK hc i Ae s σ H E I hf st hg;subst hP hw hK;let ?nD:=st),∀(hg:∀s:?t,?YU g),a,.(by have cm:∀C,?sO*C<=(?aL+1)*C:=λC=>qc0 _ (qp8 _)),.(by have f1:=p.f1;have f2:=p.f2;have fb:=p.fb;have hbF:vW<=big:=?aF),.(by exact ?a14 o ?V7),.(by show(if f=b then ?k else if b<f/\f<b+n then f-b else 0)=0),∀(h:Lev q m z D L G)(tw:∀c,c<w->?ZE (λa=>?fP)),a,.(by rw[?vJ]at ha;rw[qa0,qb8 (by rw[←h.1];exact hi),←qa0]),.(by cases cs with | nil=>simp at e | cons x l=>exact#[x,l,rfl]),.(by exact ?i (?i (?V7))),.(by let ?iC:=?b5 hn;have:=b.fin.dg.pos i (?eU)),∀{xs ys:LLInt}{k a a':Int}{L L':Nat}{ds:?e}(h:?q7),a,.(by unfold iV;rw[?h ?ED];exact h),.(by have e:xs[q]?=?c ?jD:=?wK),.(by unfold bl;rw[←Ba,←Ba,←Cf];apply Ai λq _=>?_;split),.(by show ?a1U ?UT _;rw[qe4];omega),∀{H:Hp}{d:Addr}{kv:?aM (Key × V)}{o:HO}(hd:H d=?c (.dK kv)),a,.(by have m1:=?H0 1 hn;have m2:=?H0 ?L hn),.(by revert τ;apply Hj ?_;intro s1 Fa hz1 o Fv;subst hz1),.(by exact List.Nodup.sublist (?MG _ qw5) h),.(by have ht:s.TypeIs ?dH ?eN:=?G2),∀(hA:∀a b,a<n->b<w->A a b=Aj (λi=>?l6*d i*?AC) N),a,.(by rintro ⟨p,hp,e⟩;exact#[p,hp,?k0]),.(by rw[?mD,?oI]at e;exact ?I0),.(by apply List.perm_append_comm.trans ?_;rw[qh8,qx7]),.(by intro c q n1 e2;rw[Ak (At e2 xO),Ak n1];exact e2),.(by unfold Mi;rw[qd8];intro j hj;rw[qd8];intro i hi),.(by have EC:∀t∈ts,0<t:=?oZ),∀(hL:?DI)(hL':L<=L')(ha':?IX),a,.(by have e1:=cm ?eP;have e2:=cm ?hY),.(by have s1:=sC ?eP;have s2:=sC ?hY),.(by have f0:=?IP;rw[qi7]at hp;split at hp),.(by exact ?a14 q ?uX),.(by have ne:?nI:=λz=>by rw[z,hD]at h;cases h),.(by rw[Ak ?ED];exact h),∀{A0 A1 A2 A3 A4:Type}{S:A0->A1->A2->A3->A4->St},a,∀(x:j5 K H H' tp nm r1 D1 D2 b2 n w k f l r),a,∀{X:Cx}{J:XJ}{j k:Nat}{C:Addr}{ps:?u},a,∀(x:?YB H),a,∀{q m z w k E:Nat}{D L G B P PB Q QB:Mat},a,∀{a c0 c1 c2 c3:Int}{low high:?e},a,∀{X:Cx}{Ae:Bi}{σ:St}{H:Hp}{s:Shared},a,∀(n w D π β π2 β2 b2:Nat)(A:Mat),a,∀{tp nm r1 D1 D2 b2:Addr}{n w k:Nat},a,∀{z m w:Nat}{L T B:Mat}{p:?t},a,∀{n w D:Nat}{A:Mat}(h:?NO),a,∀{D:Addr}{ms:LLInt}(h:Qg H D ms),a,∀{Q:Option ?mV->?wO},a,∀{ms ns:Ms}(h1:Ip ms)(h2:Ip ns),a,∀{n w k E:Nat}{A P PB Q QB:Mat},a,∀(dl:Fn n w ?gC PB),a,∀(hm:∀k,?G3<=2),a,∀{pos:Pos}{t:TA}(h:?O7),a,@(Bz P w K mg ?a1 Eo 1 f fd ?a (?b K)),@(∀σ H,?a->?z),@(Aq t1 (Aq t2 (Aq t3 (Aq t4 ?a))) D σ H),@(Co (K:=K) (n:=2) ?y (Bf (Ap (i:=0) ?a) (Bf ?b Cn))),@(?a  x0 x1 x2 x3 x4 x5 x6 x7 H),@(?c (.dK (cK ?a))),@(λ_ _ _ _=>?a),@(∀σ,?a->?aE),@(show ?a<?b by omega),@(?bJ+sg 0*Jc (?J a.toNat []) e+sg ?a*Jc (?J b.toNat []) e),@(?a xs ?b z k0 L G f l r),@(?D5 (?Q4 (name:=Str.ofString "__next__") ht qs0 (qn2 qs0 ht ?T7 ?a (F.args_enumerate_next_1 _)))),@(?c (?A ?a)),@(?a  x0 x1 x2 x3 x4 x5 x6 x7 x8 x9 H),@(∀H',?W->Q (.bl ?a) H'),@(s (if y=0 then y0 else if y=y0 then ?a else y)),@(?a x0 x1 x2 x3 x4 x5 x6 x7),@(g x σ H λσ1 H1=>Aq t1 (Aq t2 ?a) D σ1 H1),@(Es xs k L a ?a),@(Aw (E8 (K:=K)) ?yT B6 (Aa ?G (Aa ?a Ac))),@(Aj (λq=>if ?a then f ?aX*wB g ?b else 0) ?D),@(?a x0 x1 x2 x3 x4 x5 x6),@(?bZ _ _ ?a _ _ #[?b,g,d,tk+1,os]),@(bl xs k ?a ?b),@(ChL xs k ?a),@(Bs (?a).length),@(Rm K ?a tp nm r1 D1 D2 b2 n w k f l r),@(Aw (Ax (K:=K)) T.n_len qh6 (Aa ?a Ac)),@(b+((?a%n:Nat):Int)),@(?aW ?a ?aY),@(Ce n ?aQ w r ?a ?b M B0 kt hd t s.1 s.2),@(mg ?a=none),@(A0->A1->A2->A3->A4->A5->A6->A7->?a),@((?J (?qG).toNat []).getD i 0=(?J (?qH).toNat []).getD (j-1) ?a),@(F1 λo1 o2=>τ=[o1,o2,?a ?b]),@((5*?B+?B*?B+1)*?a),@(?a  x0 x1 x2 x3 x4 x5 x6 x7 x8 H),@(h'.get? ?dN=?c { cls:=?jP,data:=.seq #v[?f ?a s.toks,x] }),@(?a (show _<=F by omega)),@(?a  x0 x1 x2 x3 x4 x5 H),@(upd H L0 (?aB [?e2,?f 1,?f ?a])),@(Aj ?a n),@(?a xs ?aI (zs j) (ks j) (Ls j) (Gs j) ?yW (lp j) (rp j)),@(show ?a=?b by omega),@(?bZ _ _ (field ?dH ?a>>=_) _ _ ?b),@((∀x y,x<k->y<k->?p6)->(∀x,x<k->s x<m)->?a∣ ?zT),@(?a<b+_/\b+_<b+n),@(#[_,rfl,?a,rfl,#[_,?b],?eF]),@(?a  x0 x1 x2 x3 H),@(by show ?a<?b;omega),@(Aj (λa=>?a a*QB ?b a) w),@(Rep K H ?a ?b),@(Aj (λa=>Br ?a ?fM*?oC) ?bB),@(?X n (λi j=>u1.1 j ?a) r.1),@(?a (l:=C) (by unfold lev at lc;simp at lc;omega)),@(qb7 (show ?a<100000000000000000020 by omega) ?Y),@(bil n w A ?a ?b),@(Ay ?dJ ?a Al ?bA),@(?bZ (model prog w) A ?a ?b E s),@(?a  x0 x1 x2 H),@(show ?j ?a=false from qf2 (by show ¬?e1=?b;omega)),@((if ?a=?jX then ?M else if ?b=?w then -1 else 0)=0),@(λx y hx hy=>?a x y O9m O9m),@(fB Eb h2 ?a O9m (?b Eb h2 ha)),@((?a).length=?b),@(∀x,x<q->?cP m D ?a x=0),@(Aj (λa=>g (?cT)*?a) ?hD),@(A0->A1->A2->A3->A4->A5->A6->A7->A8->A9->?a),@(#[t,a,b,c,e,h1,h2,h3,h4,?a]),@(?a j h1 h2),@(show ObjOk X.prog X.w H ?lW a ?a from ?T6),@(Ay (Bd (K:=K)) ?G (Ay ?dJ ?a4 ?a ?bA) ?bA),@(Av (i:=?a) ?hI (Fq (Aa ?b (Aa Al (Aa Al Ac))))),@(λr hr=>by rw[qe9]at hr;subst hr;exact ?a),@(Vf ?v (W8 n ?a ?b) lf=false),@(Ce n ?aQ w r i ?a ?gC PB kt hd t s.1 s.2),@(C7 xs ?a),@(?g1 ?a ?b ls z L G),@(?a->Prop),@(λi zs τ H1 _ hz=>by let ?a:=hz;exact e),@(det ?C (?a A ?b)),@(?lS λq hq=>by rw[h ?a ?d,qg2,ite_self]),@(?X w A one ?gS ?a),@(?a x0 x1 x2 x3 x4),@(vs=[?K,?bX,?a]),@(qa9 _ ?a),@(mg ?a=?A5/\∀H,SqT K H a ((?b:?e).map ?a7)),@(A0->A1->A2->A3->A4->A5->A6->A7->A8->?a),@(#[?a,_,rfl,?jR,rfl,_,_,rfl,_,_,rfl,rfl,?_]),@(lH n w b0 ?a π b β ?b π2 b2 β2 C1 C2 F),@(JL n w r M B0 kt hd π b η β ?a t s),@(ChL ?v ?a ?b),@(λj hj hn=>?a j hj hn),@(λi j hij hj=>?a ?b9 ?dL O9m O9m O9m),@(wF φ ?a),@(qy5 ?a (λkey=>?_) ?_),@(SqL K H ?a ?b),@(Er (vs=[v]) (LT K H v xs) ?pS ?dM ?a),@(Cy b n tl ?a),@(Ai λb hb=>by rw[?a a b ha hb,←Ee]),@(?jU n how v a j ?a ?b ?mQ),@(?fE xs ?a ?b=true),@(?d1 ?a e j ?b old),@(?a2 λp=>(p.1,?a*p.2)),@((∀b o,b≠e->b≠j->?AF)->Q (?a ?b) ?V3),@(#[_,rfl,?a,_,_,_,rfl,rfl,?b,rfl,rfl,_,rfl,?_]),@(?a<xs.length),@(?a  x0 x1 H),@(by rw[?l,?h (by show ¬?a<_;omega)]),@(?a (λz=>by rw[z,xO]at e2;cases e2)),@(?a (K:=K) ?y T.n_zip (Aa ?b (Aa ?cL Ac))),@(φ (?d9)*Br ?a (?d9)),@(λz=>?a (by rw[←z];exact qb3 ha)),@(xs.length<=?a),@(k x0 x1 x2 x3 x4 x5 ?a h0 h1 h2 h3),@(ED K O ?a p d1 d2 l n us f g as lf),@((∃old,?d1 h e it ?a old)/\?ST it a ?b),@(?a (by rw[Bu];omega)),@(?a  x0 x1 x2 x3 x4 H),@(∀[?f8][?g],?IZ->?g9 K ?a us ?qZ),@(H ?a=?c (?aB [?f p.1,?K,?dA,?fG])),@(En ?iD ?a wu lf),@(2 ^ ?a*e.natAbs),@(vU ys ?D k ?a ?b),@(by show 0<=?a;omega),@(aY n Eb h2 ?a ?b),@(Br (Bh ?v ?a) ?b),@(?i (?o #[?a,?b])),@(?h9+(spot-r)*?g3+?a),@(?aH ?a λk _ ne=>by ext bG;rw[?b,qg2]),@((if ?w+?P=?jX then ?M else 0)*?a),@(g x σ H λσ1 H1=>t1 ?a σ1 H1),@(Il xs ?a ?D a ?b D),@(?a x0 x1 x2),@(∀q:Int,?a<=q->?b q=0),@(∀c q,c≠?a->?xQ),@(∀[?b6][?bF],?i0->B7 ?a vs ps),@(Q1 ?sJ η r ?a),@(Ak (ne ?a ?qC)),@(Ai λa _=>?a),@(?pF (i:=?a) ?b O9m O9m),@(?bP λx hx=>by rw[?a x hx,qc7]),@(?bP λa ha=>by rw[?a a ha,qc7]),@(?a x0 x1 x2 x3),@(?AO (xs:=?eC) O9m (q:=?a) O9m),@(xA ?a (by have:=p.π9;omega)),@(s _ _ ?a (?o ?dZ)),@(s _ _ ?a),@(qL (λr=>Mn ?oF ?nY ?a r ?b) (?B)),@(go _ (?o (?o ?a))),@(dQ ?a ?b id hD xK),@(Mn π b ?a r ?b),@((?a:?x)[i]?=?c ?b),@((?a).length<=?b),@(#[h.1,λi v ps e1 e2=>let ?a:=?IF;?b]),@(?a[i]?=?c ?b),@(?a x y O9m O9m ?b),@(?a x0 x1 x2 x3 x4 x5 x6 x7 H),@(λ_ _ _ _=>(?XO ?a (Ap (i:=1) ?b))),@(?a x0 x1 x2 x3 x4 x5 x6 x7 x8 x9 H),@(#[_,(Am (Be ?a)),?_]),@(?a x0 x1 x2 x3 x4 x5 x6 x7 x8 ?b),@(?a x0 x1 x2 H),@(?a x0 x1 x2 x3 H),@(Aq t5 (Aq t6 (Aq t7 ?a))),@(?a x0 x1 x2 x3 x4 x5 H),@(Oy ?fV ?aK ?sM ?fN ?B1 ((∃k:Nat,k<4/\?A2=true)) ?a),@(?c7->?W->?cK=?XX ?a->?cQ),@(?a x0 x1 H),@(H ?a=?XX ?b),@(?a->?ZR ?b),@(?a x0 x1 x2 x3 x4 ?b),@(λq hq=>?a q (?ZY hq)),@(β+(?aL+1)*?eP+C1+?YK (2*π+4)<=?a),@(iF _ _ (?XT ?a n) (?XT ?b n) O9m _ x y),@(λvs H Q _=>F1 λ ?jS ?U=>?a0A ?a),@(?XU 1+sg 2*Jc (?J c.toNat []) ?a),@(λσ' H'=>σ'=[rS c,?c ?a]/\H=H'),@(λx=>a*φ x+b*ψ ?a),@(β2+(?aL+1)*?hY+C2+?YK ?eJ<=?a),@(b+_=?a\/(?YV ?gU)),@(Aj (λb=>?a ?b b*q b) w),@(?J ?a []),@(?Y8 ?a ?b=0),@(H ?a=?XQ ?b),@(.dK (cK ?a)),@((det k ?a).natAbs=(det k ?b).natAbs),@(bil N N ?l4 ?a ?b),@(Dx λx0=>Dw ?eO ?a ?b),@(Cl ?a (Am (Be ?b)) Bv),@(?z7 n p ?a x y ?b u v),@(?a->let s:=?b;G s),@(G9 (vs=[?lV,?bX]) (?w4) ?T5 ?z0 (k<4) ?a),@(λvs H Q _=>Xy λ ?cR ?U ?dW=>?a27 ?a),@(Gz (Px (K:=K)) ?y ?DU Ll (Aa ?a Ac)),@(Cj ?y ?B4 (Aa ?a Ac)),@(Aq t8 (Aq t9 (Aq HQ (Aq oZ ?a)))),@(Ap (i:=?a) ?b),@(λp=>?a*x.g p+?b*y.g p),@(λp=>?a*x.f p+?b*y.f p),@(Am (Be ?a)),@(Bo Dy ?a ?b ?cE),@(λvs H Q _=>eE λ ?DO ?aA (B:Hp) ?U ?yC=>?a2X ?a),@(Av (i:=?a) ?hI ?b)])
abbrev JL(n w r:Nat)(M B0:Mat)(kt:?t)(hd:?s)(π b η β:Nat):Nat->?a2B (?t) ?cY:=λi t s =>
 (i<=r/\?YF i (λc=>c<w)/\?ML) ∨
 (r<=i/\?YF i (λc=>?eV)/\?HN)
def JL.lt{n w r:Nat}{M B0:Mat}[?tT]{π b η β:Nat}:∀i t s,?a03 i->∀j,j<i->t j<w+n:=λ_ _ _ h j hj=>by
 rcases h with⟨_,h,_⟩|⟨_,h,_⟩<;>exact h.st.st.lt j hj
def Wm{n w r E π b η β:Nat}{e:Int}{T P PB:Mat}[?tT][?CO](he0:0<e)[?BW][?XI](hη:∀j,?eQ->j<n->hd j<=?x6)
 (hβ:η+1<=β) (hbig:β+?oW<=big) (hE:E<=?bH) [?CI] (hb:n*E<=?bO) (hπb:π<=b) (hπ:?A6) (hη9:η<=8990) :
 GW n ?aQ (JL n w r ?gC PB kt hd π b η β):=by
 have rn:=g.sq.rn;have dets:=Ww (P:=P) g.dets;have Ab9:∀{i:Nat}{t:?t}{s:?cY},i<=r->?FZ->?OH:=λhi h j hj=>xA (qa5 (h.st.headD ?fD hi hj) hE) O9m
 have hηN:∀j,?eQ->j<n->?gH<=?x6:=λj h1 h2=>by
  have p:=?v0;have q:=?ZI hη;have:(?gH:Int)<=((?x6:Nat):Int):=by rw[Int.natAbs_of_nonneg ?d];exact_mod_cast q
  exact_mod_cast this
 apply#[λi t s hi hJ=>?_];by_cases hir:i<r
 . obtain⟨_,h,bb⟩:i<=r/\?FZ/\?ML:=by
    rcases hJ with hJ|⟨h,_⟩
    . exact hJ
    . omega
   have H:=MO g (qh0 w n) h hir hE he (qa5 (qc0 _ (qe6 hi)) hb) hπb;have tm:?H7<=?jG:=lU π b hir;have tm':?H7=?x9+?OW:=rfl;have tn:?jG<=?oW:=qh0 _ _
   have hG:∀spot (s':?cY) st,spot<=i->Ds n ?aQ w i (λc=>c<w) s.1 s.2 t π b ?a5 s'.1 s'.2->Hq ?aQ (s'.1 i) st->st<w:=λspot s' st hs p hB=>by
    let#[c,hc,h0]:=tR he0 g.sq (λk c _ hc=>?iM hc) hir ((h.st.good.mono (qp8 i)).trans p.good) ?I dl;rcases qg4 c st with z | z
    . exact ?Q (hB.1 c z) h0
    . exact qc2 z hc
   let#[I,Pu,ev]:=EI (C:=?rT) (δ:=?rF) (β:=β+?x9) H rfl (h.st.good.dual dl) bb O9m hπ h.st.pg hG λt1 Y R1 B1 R2 B2 I1 D1 j hj=>by
    have:=(h.st.next I1 D1).headD ?fD (show i+1<=r from hir) (show j<i+1 by omega);exact xA (qa5 ?aG hE) O9m
   apply#[I,Pu,λspot st s' hs hI hB hex=>?_];let#[e1,e2,e3,e4,e5]:=ev ?a5 st s' hs hI hB hex;exact#[e1,?i #[hir,h.next hir e2 hs e3 e4,by rw[tm',←qr2];exact e5]]
 . have tF:r<=i:=O9m
   obtain⟨h,ab,bb,h9⟩:?ZO (λc=>?eV)/\?HN:=by
    rcases hJ with⟨h1,h,bb⟩|⟨_,h⟩
    . have e:i=r:=O9m
      subst e;apply#[h.wide λc hc=>O9m,?_,?_,Ab9 ?I h]
      . rw[qh2,Nat.zero_mul];exact WB bb rn hβ
      . rw[qh2];exact bb
    . exact h
   have hsd:r+?oA=i:=O9m
   have row:∀c,s.1 i c=?U8:=λc=>h.st.good.rest i c ?I;have zero:∀c,c<kt i->s.1 i c=0:=λc hc=>by rw[row];exact ?qV i c tF hi hc
   have hd0:0<s.1 i (kt i):=by rw[row,?x2 i tF hi];exact K.pos i tF hi
   have ktW:=K.lt i tF hi;have bg:Hq ?aQ (s.1 i) (kt i):=#[zero,O9m,ktW]
   have em:?E9=?U9+(?Q3+(r+?oA)+3):=rfl;have emo:?E9<=?IE:=nG _ _ _ O9m;have tn:?HW:=rfl;rw[hsd]at em;apply#[λ_ s'=>s'=s,#[rfl,?_,λ_ _ _ hs _=>hs,?_],?_]
   . rintro spot _ _ rfl;exact#[kt i,ktW,O9m]
   . rintro spot _ hs rfl hz h0;exact ?Q (h.skip K tF hi hs ?I) h0
   . rintro spot st s' hs e hB hex;have e:=e.symm;subst e;have est:=hB.one bg;subst est
     have esp:spot=i:=by
      rcases qg4 ?a5 i with z | z
      . exact ?Q (h.skip K tF hi z (qe6 (hex z))) hB.2.1
      . omega
     subst esp
     have Bk7:insS ?a5 ?a5 ?qK s=s:=by
      have m1:moveS ?a5 ?a5 s=s:=by
       show(moveR s.1 ?a5 ?a5,moveR s.2 ?a5 ?a5)=s;rw[Qp,Qp]
      rw[insS,m1,?l]
     rw[Bk7];let#[k1,k2,k3]:=h.last K tF hi (λc hc=>hc) ktW (C:=?rT) (δ:=?rF) bb (λk hk=>ab k ?a5 hk ?I hi);have hbd:?HB<=big:=O9m
     have st':=k1.st.st
     have hh:∀d,d<=?kI->∀j,?z5->(downS (insT t ?a5 ?qK) ?a5 s d).1 j (?o2)=?z6:=λd hd j hj=>by
      let#[l1,_]:=k2 d hd;have:=l1.rows j (?o2);rw[this];split
      . rename_i z
        have tl:?o2<?y5:=by
         have:=st'.inc j ?a5 z.2 O9m;have e:insT t ?a5 ?qK ?a5=?y5:=by unfold insT;rw[?l,?r]
         omega
        rw[zero _ tl,qc7,ql3]
      . rfl
     have hs9:∀j,?z5->(?z6).natAbs<L9:=λj hj=>by
      unfold insT;rcases qg4 j ?a5 with z | z
      . rw[?a8];exact h9 j z
      . have:j=spot:=O9m
        subst this;rw[?l,?r,row,?x2 j tF hi];exact xA (hηN j tF hi) O9m
     have hpos:∀j,?z5->0<?z6:=λj hj=>by
      have:=st'.pos j O9m;rw[hh (?kI) ?I j hj]at this;ext c3
     apply#[λd hd=>#[λj hj1 hj2=>#[st'.lt j hj2,by rw[?E2];exact hpos j O9m,by rw[?E2];exact ?LB],?k8],?o #[O9m,k1,?_,?_,λj hj=>by rw[hh (?kI) ?I j ?d];exact ?LB]]
     . rcases qg4 m d with z | z
       . have:=k3 d O9m m z;rw[this];exact ?kX (k2 d O9m).2 hbd
       . have e:m=d:=O9m
         subst e;exact ?kX (k2 ?dI O9m).2 hbd
     . have:=h.above K tF hi hηN ab (?M9).1;rw[?LO,qg0,qf9];have e:?h9+((spot-r)*?g3+?g3)=?a15 η+1:=O9m
       rw[e];ext c3
     . rw[?LO,em];have:=(?M9).2;rw[show ?xY+(?DJ+(?a15 spot+3))=?HB by omega];ext c3
def qA{M:Mat}{k:Nat}(hp:∀x,x<k->0<M x x):∀m,k<=m->(∀x,k<=x->x<m->M x x=0)->oH m M=Ie k ?xX:=by
 have base:∀j,j<=k->oH j M=Ie j ?xX:=λj=>by
  induction j with
  | zero=>intro _;rfl
  | succ j ih =>
    intro hj;have:=?uJ;rw[Ps,?l,ih ?d,Zm]
 intro m
 induction m with
 | zero=>intro h _;exact ?a1 0 ?iA▸(by rw[?YS k 0])
 | succ m ih =>
   intro h hz;by_cases e:k=m+1
   . subst e;exact ?a1 _ ?I
   . rw[Ps,?q (hz m ?d ?d),ih ?d λx h1 h2=>hz x h1 ?d]
noncomputable abbrev vW:Nat:=67000000
abbrev Ov(n:Nat)(s:?cY):Prop:=∀a b,a<n->b<n->pT n s.2 s.1 a b=?rR
def Ov.one(n:Nat):Ov n ?SI:=λa b ha hb=>by
 show ?YQ (λk=>?gJ k a*?gJ k b)=_;rw[?aH ha λk _ hk=>by unfold Lat.one;rw[?h hk,qg2]];unfold Lat.one;ext n3
def Ov.go{n w:Nat}{T:Mat}{l:?cY}{R B:Mat}(h:?p4)(e:∀a b,pT n B R a b=pT n l.2 (?X w T l.1) a b):Ov n (?wD,B):=λa b ha hb=>by
 have:=e a (w+b);rw[←h a b ha hb];apply ?M2 ?aG ?_;exact Ai λk _=>by rw[beside_hi]
def ZJ(i j:Nat):?N2<=1:=by
 ext bG;split<;>decide
def bT{n w W b:Nat}{T P:Mat}(hT:∀i c,i<n->c<w->?lM<=?bO)(hP:∀i c,i<n->c<W->(P i c).natAbs<=?bO):∀i c,i<n->c<w+W->(?U8).natAbs<=?bO:=λi c hi hc=>by
 unfold beside;split
 . rename_i h;exact ?P9
 . exact ?ES
def Wt{n w W b:Nat}{T P:Mat}(hT:∀i c,i<n->c<w->?lM<?bO)(hP:?a6 n W b P):?a6 n (w+W) b ?gC:=λi c hi hc=>by
 unfold beside;split
 . rename_i h;exact ?P9
 . exact ?ES
def Wu{n w W b:Nat}{R:Mat}(h:?a6 n (w+W) b R):?a6 n W b ?wD:=λi c hi hc=>h i (w+c) hi O9m
def Lm{n W b b':Nat}{R:Mat}(h:?a6 n W b R)(hb:b<=b'):?a6 n W b' R:=λi c hi hc=>qb7 (h i c hi hc) (qf6 ?Y hb)
def zX{e:Int}{D π:Nat}(h:e<=D)(hD:D<=?bH)(h0:0<e):e.natAbs.log2<=π/\?zP:=by
 have h1:?zP:=by
  have:e.natAbs<=D:=O9m
  exact qa5 ?aG hD
 apply#[?_,h1];have:e.natAbs.log2<?hS:=(Nat.log2_lt O9m).mpr (qc2 h1 (?pD));omega
def JL.done{n w r π b η β c:Nat}{M B0:Mat}[?tT]{t:?t}{s:?cY}(rn:r<=n)(h:?a03 n)(hc:?oW<=c):(∃G,?YF n G)/\?a6 n ?aQ (β+c) s.1/\?a6 n n (β+c) s.2:=by
 have e:?HW:=rfl;rcases h with⟨h0,h,bb⟩|⟨h0,h,_,bb,_⟩
 . have en:n=r:=O9m
   subst en;have:=bb.mono (show β+Ec π b n<=β+c by omega);exact ?S9
 . have:=bb.mono (show _<=β+c by omega);exact ?S9
universe Hb
namespace Lat
open Hb
abbrev Fm(f:?t):?t
 | 0=>0
 | n+1=>?uK
def La{f g:?t}:∀{n:Nat},(∀k,k<n->f k<=g k)->?p2<=?w5
 | 0,_=>?bM
 | n+1,h=>Nat.add_le_add (La ?JP) ?NT
def Uq[?d5]:∀n:Nat,(?YQ f).natAbs<=Fm (λk=>(f k).natAbs) n
 | 0=>?bM
 | n+1=>qa5 (qf4 (?YQ f) (f n)) (qq9 (Uq f n) _)
def Ya(f:?t)(c:Nat):∀n:Nat,Fm (λk=>f k*c) n=?p2*c
 | 0=>by show 0=0*c;omega
 | n+1=>by show Fm _ n+f n*c=(?uK)*c;rw[Ya f c n,qg0]
def JY{f g:?t}{c:Nat}:∀{n:Nat},c<n->f c=f c->(∀k,k<n->k≠c->f k=g k)->g c=0->?p2=f c+?w5
 | 0,h,_,_,_=>O9m
 | n+1,h,e,hk,h0=>by
   show ?uK=f c+(?w5+g n)
   by_cases z:c=n
   . subst z;have:Fm f c=Fm g c:=qi8 (La λk hk'=>qm9 (?FK)) (La λk hk'=>qm9 (?FK).symm);omega
   . have:=JY (n:=n) O9m rfl (λk hk'=>hk k O9m) h0;have:=hk n O9m O9m;omega
def AM{i:Nat}{R B:Mat}{t:?t}(P:Part R t 0 i){a m:Nat}(h:∀j,j<i->(Aj (?y9) i).natAbs<=m*?pN):∀j,j<i->(B j a).natAbs<=2 ^ j*m:=by
 intro j
 induction j using Nat.strongRecOn with
 | _ j ih =>
   intro hj;have pj:=P.pos j ?iA hj;have hs:=h j hj;rw[?jE (j:=j+1) ?d λk h1 h2=>by rw[P.zero k _ ?iA h2 (P.inc j k ?iA ?d h2)];simp]at hs;have hs':(Aj (?y9) j+?N6).natAbs<=m*?pN:=hs
   have b:=cJ (f:=?y9) (m:=m) (h:=?pN) (j:=j) λk hk=>by
    rw[qb6];let ?nE:=P.red k j ?iA hk hj;exact qf5 (ih k hk O9m) O9m
   have c:(?N6).natAbs<=2 ^ j*m*?pN:=qa5 (Xh hs') (by rw[qy3];exact b);rw[qb6]at c;exact qs3 c O9m
section
variable{n w r E:Nat}{e:Int}{T P PB R RB:Mat}{kt t:?t}{hd:?s}
def qM[?CO]{x:?s}[?nA](hx:∀c,c<w->v c=?CT)(hv:∀c,c<w->(v c).natAbs<=e.natAbs):?IR:=by
 have rn:=g.sq.rn;have rw':=g.sq.rw
 let a:Nat->?t:=λc k=>if ?wS then ?pV*(T k k).natAbs else 0
 have step:∀c,c<r->Fm (a c) n=a c c+?MX:=λc hc=>JY O9m rfl (λk hk ne=>by
  show(if ?wS then _ else 0)=if ?sX then _ else 0
  by_cases z:?wS
  . rw[?a8,?q #[?y0,z.2]]
  . ext mX) (by show(if c+1<=c/\c<r then _ else 0)=0;ext dT)
 have top:∀c,c<r->a c c<=e.natAbs+?MX:=λc hc=>by
  have h1:=hx c O9m;have h2:=sumN_pair (f:=?qD) (g:=λk=>if k=c then ?kP else ?l5) (n:=n+2) (p:=c) (q:=n+1) O9m O9m O9m
  have e1:?CT=?kP+?KL:=by
   have:∀m,c<m->m<=n->Aj (?qD) m=?kP+Aj (λk=>?l5) m:=λm=>by
    induction m with
    | zero=>intro h;omega
    | succ m ih =>
      intro h hm;show Aj _ m+?SN=?kP+(Aj _ m+if c+1<=m/\m<r then ?SN else 0)
      by_cases z:c=m
      . subst z;have z1:Aj (?qD) c=0:=?bP λk hk=>by rw[g.low k c ?d ?d hk,qc7]
        have z2:Aj (λk=>?l5) c=0:=?bP λk hk=>?Q6
        rw[z1,z2,?l];omega
      . rw[ih ?d ?d];by_cases y:m<r
        . rw[?q #[?y0,y]];omega
        . rw[?l,?RI m c ?d ?d ?d,qc7];omega
   exact ?aG n O9m ?I
  have e2:(?kP).natAbs<=e.natAbs+(?KL).natAbs:=by
   have:=hv c O9m;rw[h1,e1,Int.add_comm]at this;exact Xh ?aG
  apply qa5 (qm9 ?_) (qa5 e2 (qw3 (qa5 ?EW ?DR) _))
  . show(if c<=c/\c<r then _ else 0)=_;rw[?q #[?bM,hc],qb6]
  . show(?l5).natAbs<=if ?sX then ?pV*(T k k).natAbs else 0
    by_cases z:?sX
    . rw[?a8,?a8,qb6];let ?nE:=g.red c k O9m z.2;exact ?SF
    . ext tV;ext dV
 have all:∀d,d<=r->Fm (a (r-d)) n+e.natAbs<=?y2:=λd=>by
  induction d with
  | zero =>
    intro _
    have:Fm (a (r-0)) n<=Fm ?mJ n:=La λk _=>by
     show(if r-0<=k/\k<r then _ else 0)<=0;ext dT;ext dV
    have z:∀m,Fm (λ_=>0) m=0:=λm=>by induction m with
     | zero=>rfl
     | succ m ih=>show Fm ?mJ m+0=0;omega
    rw[z]at this;rw[qy2];omega
  | succ d ih =>
    intro hd;have i1:=?m2;have s:=step (r-(d+1)) O9m;have t:=top (r-(d+1)) O9m;rw[show r-(d+1)+1=r-d by omega]at s t;have p2:?a0Z (d+1)=?y2+?y2:=?VE
    omega
 have fin:=all r ?I;rw[qh2]at fin
 have le1:?JR<=?F7:=La λk hk=>by
  show _<=if 0<=k/\k<r then _ else 0
  rw[?q #[?cX,hk]];have:=g.pos k hk;exact ?vB
 have le2:∀m,r<=m->?F7<=?TG:=λm=>by
  induction m with
  | zero=>intro h;rw[?YS r 0];ext dV
  | succ m ih =>
    intro h;by_cases z:r=m+1
    . rw[z];ext dV
    . have:=?m2;show _<=?TG+a 0 m;omega
 have:=le2 n rn;omega
def QM[?BW](he:1<=e.natAbs){x:?s}[?nA](rn:r<=n)(hx:∀c,?eV->v c=?YQ (λk=>x k*?pO))(hv:∀j,?eQ->j<n->(v ?iF).natAbs<=?gH)(h0:?IR):Fm ?oH n<=?RB:=by
 have one:∀j,?eQ->j<n->(x j).natAbs<=1+?yV:=λj h1 h2=>by
  have p:=?v0;have e1:=hx ?iF (?ZI K.lt);rw[?jE (j:=j+1) ?d λk h3 h4=>by rw[?qV k _ ?d h4 (K.inc j k h1 ?d h4),qc7]]at e1;have e2:v ?iF=?AM+?LD:=by rw[←?wM];exact e1
  have e3:(?AM).natAbs<=?yV*?gH:=by
   rw[←Ya];apply qa5 (Uq _ j) ?DR;let ?nE:=K.red k j h1 hk h2;show(x k*_).natAbs<=_;rw[qb6];exact ?SF
  have e4:=?ZI hv
  have e5:(?LD).natAbs<=(1+?yV)*?gH:=by
   rw[qg0,qf9];apply qa5 (Xh (a:=?AM) (m:=?gH) ?_) (qw3 e3 _);exact qa5 (qm9 (congrArg Int.natAbs e2.symm)) e4
  rw[qb6]at e5;exact qs3 e5 O9m
 have all:∀d,r+d<=n->?PM+1<=?zJ:=λd=>by
  induction d with
  | zero=>intro _;rw[qy2];show Fm _ r+1<=_;omega
  | succ d ih =>
    intro hd';have i1:=?m2;have o:=one (r+d) O9m O9m;show ?PM+(x (r+d)).natAbs+1<=_;rw[qh9];have:2 ^ d*2*?zW=?zJ+?zJ:=?iU
    omega
 have fin:=all ?oP O9m;rw[show r+?oP=n by omega]at fin
 have p1:?BA*?zW=?pT+?BA:=by
  rw[Nat.mul_add,Nat.mul_one,←Nat.mul_assoc,←qe8]
  congr 3
  omega
 have p2:?BA<=?pT:=qa5 (?AW) (qi3 _ he);have p3:?RB=?pT+?pT:=?VE
 omega
def Q6.le{M:Mat}{W:Nat}(K:Q6 n W w r kt hd M){i j:Nat}(hi:i<n)(h1:?eQ)(h2:j<n):(M i ?iF).natAbs<=?gH:=by
 have p:=?v0;rcases qm5 i j with z | z | z
 . let ?rH:=K.red i j h1 z h2;omega
 . rw[z,?wM];ext dV
 . rw[?qV i _ ?d hi (K.inc j i h1 z hi)];ext cH
def aK{π β:Nat}{G:?ZR Nat}(he0:0<e)[?CI][?CO](g':Fl w n r E e (tr R))[?BW](K':Q6 n ?aQ w r kt hd R)(s:?OO)(b1:?a6 n n β P) :
 ?a6 n n ?IM (?wD):=λi a hi ha=>by
 let#[x,hx]:=(?AZ).1 i hi
 have h0:=qM g (x:=x) (v:=R i) (λc hc=>by rw[hx c ?d];exact Ai λk _=>by rw[?iM hc]) λc hc=>by
  let ?rH:=g'.le c i hc hi;show(tr R c i).natAbs<=_;omega
 have h1:=QM K (e:=e) O9m g.sq.rn hx (λj h1 h2=>K'.le hi h1 h2) h0;show(R i ?q5).natAbs<_;rw[hx ?q5 ?d];apply qc2 (qa5 ?EW (qa5 (La (g:=λk=>?pV*?AY) ?v8) ?_)) (m:=?rB*?bH*?AY) ?_
 . show(x k*_).natAbs<=_;rw[qb6,beside_hi];exact qf3 _ (qe6 (b1 k a hk ha))
 . rw[Ya];exact qc0 _ (qa5 h1 (qf3 _ he))
 . rw[←qe8,←qe8];ext CA
def X3{π β:Nat}(he0:0<e)[?CI][?VQ][?XI](b2:?a6 n n β PB) :
 ?a6 n n ?IM RB:=λi a hi ha=>by
 have ex:∀k,∃y:?s,k<n->∀c,?eV->?pO=?YQ (λi=>y i*R i c):=λk=>by
  by_cases hk:k<n
  . let#[y,hy]:=(?AZ).2 k hk;exact#[y,λ_=>hy]
  . exact#[?cM,λz=>?Q z hk]
 let y:?cC:=λk=>Classical.choose (ex k)
 have hy:∀k,k<n->∀c,?eV->?pO=?YQ (λi=>?qU*R i c):=λk=>Classical.choose_spec (ex k)
 have ybd:∀k,k<n->(?qU).natAbs<=?oG*e.natAbs:=λk hk=>by
  apply AM (R:=R) (B:=λi _=>?qU) (t:=t) (a:=0) (i:=n) #[λj l _=>?jM j l,?PJ,?UP,λl j _=>?t5 l j] (?jY) i hi;rw[←hy k hk ?gD (?gM j hj)];have p:=?PT;by_cases z:j<r
  . rw[?iM ?LY];let ?mR:=g.le k ?gD hk ?LY;exact qa5 (show(T k ?gD).natAbs<=e.natAbs by omega) (?vB)
  . let ?mR:=ker j O9m hj;rw[q2];rw[q1];exact qa5 (K.le hk O9m hj) (qn1 _ O9m)
 have rel:RB i a=?zE:=by
  have z:∀c,?eV->?V1=0:=λc hc=>by
   have e1:?YQ (λl=>RB l a*?hV)=?yA:=s.pt a c
   have e2:?yA=?YQ (λl=>?k2*?hV):=by
    have:?yA=?YQ (λk=>Aj (λl=>?G9*?hV) n):=Ai λk hk=>by
     rw[hy k hk c hc,←Ba];exact Ai λl _=>?iU
    rw[this,Cz];exact Ai λl _=>by rw[Ee]
   have e3:?V1=?YQ (λl=>RB l a*?hV+(-1)*(?k2*?hV)):=Ai λl _=>?iU
   rw[e3,Cf,Ba,e1,e2];omega
  have d:=s.dual dl
  have q:?zK=RB i a-?zE:=by
   have:?zK=?YQ (λc=>Aj (λl=>(RB l a-?k2)*(R l (w+c)*RB i c)) n):=Ai λc _=>by
    rw[←Ee];exact Ai λl _=>?h0
   rw[this,Cz]
   rw[?aH hi λl hl ne=>by
    rw[Ba];have:=d l i hl hi;unfold pD at this;rw[this,?eM,qc7]]
   rw[Ba];have:=d i i hi hi;unfold pD at this;rw[this,?r,qk5]
  have q0:?zK=0:=?bP λc hc=>by rw[z (w+c) ?d,qg2]
  omega
 rw[rel]
 have m1:(?zE).natAbs<=n*(?oG*?bH*?AY):=O7 λk hk=>by
  rw[qb6];exact qf5 (qa5 (ybd k hk) (qf3 _ he)) (qe6 (b2 k a hk ha))
 apply qc2 m1 (qc2 (qc0 _ (qe6 (qr3 (n:=n)))) ?_);rw[←qe8,←qe8,←qe8];ext CA
def Dl.same{W n:Nat}{R:Mat}{t:?t}(st:Dl W n R t)[?nA](hv:In W n R v){j:Nat}(hj:j<n)(h0:∀k,k<j->?q6=0)(h1:v ?gD=?r9)(h2:∀k,j<k->k<n->0<=?q6/\?q6<R k ?lQ):∀c,c<W->v c=R j c:=by
 let#[x,hx]:=hv
 have hu:∀c,c<W->v c-R j c=?UM:=λc hc=>by
  have e:?UM=?YQ (λk=>x k*R k c+(-1)*((?s5)*R k c)):=Ai λk _=>?iU
  rw[e,Cf,Ba,Cu,?q hj,←hx c hc];omega
 have all:∀k,k<n->(x k-?s5)=0:=λk=>by
  induction k using Nat.strongRecOn with
  | _ k ih =>
    intro hk;have p:=?qR k hk;have e:=hu ?lQ (?gM k hk)
    rw[?aH hk λi hi ne=>by
     rcases qg4 i k with z | z
     . rw[ih i z hi,qg2]
     . rw[?s9 i _ hi (?jM k i ?d hi),qc7]]at e
    have small:(?q6-R j ?lQ).natAbs<?wB:=by
     rcases qm5 k j with z | z | z
     . rw[h0 k z,?s9 j _ hj (?jM k j z hj)];omega
     . subst z;rw[h1];omega
     . have a:=h2 k z hk;have b:=?t5 j k z hk;omega
    rw[e,qb6]at small;apply qg8 λne=>?_;have:1*?wB<=(x k-?s5).natAbs*?wB:=?UW;omega
 intro c hc;have:=hu c hc;rw[?bP λk hk=>by rw[all k hk,qg2]]at this;omega
def lP[?VQ]{j:Nat}(h1:?eQ)(h2:j<n):∀c,?eV->R j c=?X w T P j c:=λc hc=>by
 apply(st.same ((?AZ).2 j h2) h2 (?v8) ?_ (λk hk hn=>?_) c hc).symm
 . by_cases z:k<r
   . rw[?iM ?OK];exact ?RI j _ h1 h2 ?OK
   . rw[(ker k ?d ?d).1];exact ?qV j _ h1 h2 (K.inc k j O9m hk h2)
 . let ?rH:=?ZI ker;rw[b,a];exact ?wM
 . let ?rH:=ker k O9m hn;rw[b,a];exact K.red j k O9m hk hn
universe e9
universe Lat
namespace Hb
open Lat
section
variable{n w b0 D π b β D2 π2 b2 β2 C1 C2:Nat}{A:Mat}
universe e9
abbrev i5(n:Nat)(f:?GU):Bool:=(?l1).all f
def K5{n:Nat}{f:?GU}(h:i5 n f=true):∀i,i<n->f i=true:=λi hi=>?gI h i (?jB hi)
universe Hb
namespace Lat
open Hb
def cN:∀(k:Nat) (s:?t),(∀x y,x<=k->y<=k->?p6)->∃x,x<=k/\k<=s x
 | 0,s,_=>#[0,?bM,?cX]
 | k+1,s,h=>by
   refine qo4;intro no
   have lt:∀x,x<=k+1->s x<=k:=λx hx=>by
    rcases qg4 k ?qI with z | z
    . exact ?Q #[x,hx,z] no
    . exact z
   let ?MF:=cN k (λx=>if s x=k then s ?T else s x) λx y hx hy e=>by
    by_cases h1:s x=k
    . by_cases h2:s y=k
      . exact ?a1X h (h1.trans h2.symm)
      . rw[?zL,?oI]at e;have:=h ?T y ?I O9m e;omega
    . by_cases h2:s y=k
      . rw[?mD,?q h2]at e;have:=h x ?T O9m ?I e;omega
      . ext WR
   have l1:=lt x O9m;have l2:=lt ?T ?I;by_cases h1:s x=k
   . rw[?zL]at hk;have:=h x ?T O9m ?I O9m;omega
   . rw[?mD]at hk;omega
def GB[?f7]{m:Nat}(ch:∀a b,a<=b->b<m->f a∣f b):∀(k:Nat) (s:?t),?YU ?jZ
 | 0,_,_,_=>qy4 _
 | k+1,s,h,hm=>by
   let#[x0,hx,hk]:=cN k s λx y hx hy e=>?I0;have hd:f k∣ ?OJ:=ch _ _ hk (hm x0 O9m)
   have ih:=GB ch k (λx=>?T4) (λx y hx hy e=>by
    by_cases h1:x=x0
    . by_cases h2:y=x0
      . omega
      . rw[?zL,?oI]at e;have:=h k y O9m O9m e;omega
    . by_cases h2:y=x0
      . rw[?mD,?q h2]at e;have:=h x k O9m O9m e;omega
      . ext WR) (λx hx=>by
    split
    . exact hm k O9m
    . exact hm x O9m)
   show ?jZ*f k∣ ?N9
   have e:?N9=?a3 (?DV) k*?OJ:=by
    by_cases z:x0=k
    . subst z
      congr 1
      exact ?UC λx hx=>?Q6
    . have:=Qm (f:=?w0) (f':=?DV) (i:=x0) (m:=k) O9m λx _ hne=>by rw[?h hne]
      simp only[if_pos]at this;exact this.symm
   rw[e];exact Int.mul_dvd_mul ih hd
where
 prodN_congr' {f g:?s}:?RS
  | 0,_=>rfl
  | n+1,h=>by
    show ?VA;rw[?UC ?O0,h n ?d]
def Yy{f g:?s}:?RS
 | 0,_=>rfl
 | n+1,h=>by
   show ?VA;rw[Yy ?O0,h n ?d]
def EK{d:Int}{g:?s}:∀{n:Nat},(∀k,k<n->d∣g k)->d∣ ?YQ g
 | 0,_=>?MK d
 | n+1,h=>Int.dvd_add (EK ?JP) ?NT
abbrev Vk(U:Mat)[?d5](W:Mat)(m:Nat)(s:?t)(j:Nat):Mat:=λx y=>if x<j then W ?qI y else Aj (λu=>(U x u*f u)*W u y) m
def KD{m k:Nat}[?f7]{U W:Mat}{g:Int}[?W5] :
 ∀(d j:Nat),j+d=k->∀s:?t,(∀x,x<j->s x<m)->g∣ ?nP*det k (?s2)
 | 0,j,e,s,hs=>by
   have e':j=k:=e;subst e';by_cases h:∀x y,x<j->y<j->?p6
   . exact ?O6 (hg s h hs)
   . have:∃x y,x<j/\y<j/\s x=s y/\x≠y:=by
      refine qo4;intro no;exact h λx y hx hy e=>qo4 λne=>no ?Q5
     let ?Q5:=this;rw[Ff hx hy ne λc _=>by unfold Vk;rw[?q hx,?q hy,e],qc7];exact ?MK _
 | d+1,j,e,s,hs=>by
   have hj:j<k:=O9m
   have e1:?s2=B5 (?s2) j λc=>Aj (λu=>(U j u*f u)*W u c) m:=by
    funext x y
    unfold B5;by_cases z:x=j
    . rw[?a8];unfold Vk;rw[?l,z]
    . rw[?b2]
   rw[e1,Xu _ hj,←Ba];apply EK λu hu=>?_
   have ih:=KD (U:=U) (W:=W) hg d ?a0 O9m (λx=>?iQ) λx hx=>by
    split
    . exact hu
    . exact ?U3
   have e2:det k (B5 (?s2) j (W u))=?uL:=C0 λx c hx hc=>by
    unfold B5 Vk;by_cases z:x=j
    . ext mY;show W u c=W (?iQ) c;rw[?a8]
    . rw[?b2];by_cases z2:x<j
      . rw[?q z2,?Z];show W ?qI c=W (?iQ) c;rw[?b2]
      . rw[?h z2,?l]
   have e3:?a3 (λx=>f (?iQ)) ?a0=?nP*f u:=by
    show ?a3 (λx=>f (?iQ)) j*f (if j=j then u else s j)=_;rw[?r,Yy λx hx=>by rw[?h (show x≠j by omega)]]
   rw[e3]at ih;rw[e2];let#[c,hc]:=ih;apply#[U j u*c,?_]
   have:?nP*(U j u*f u*?uL)=U j u*(?nP*f u*?uL):=by
    simp only[qe0,qx9,qf1]
   rw[this,hc];simp only[qx9]
def bZ{n:Nat}{P PB P':Mat}(h:?NE)(x:Nat):∀c,c<n->P' x c=?A7:=λc hc=>by
 have e:?A7=?YQ (λa=>?xF*pT n PB P a c):=by
  rw[Ai λu _=>(Ee _ _ _).symm,Cz];apply ?a1G ?_;show _=?xF*?YQ (λk=>?q3*P k c);rw[←Ba];exact Ai λk _=>by rw[qe0]
 rw[e,?aH hc λa ha ne=>by rw[h a c ha hc,?eM,qc7],h c c hc hc,?r,qk5]
def Ed.dvdP{n w m E:Nat}[?BY][?tJ]{k:Nat}[?BN]
 {g:Int} [?W5]:g∣ ?wW:=by
 have mn:=h.mn;have mw:=h.mw;have key:=KD (U:=?VC) (W:=?LK) hg k 0 O9m ?mJ ?HY
 rw[show ?a3 (λx=>f (?mJ x)) 0=1 from rfl,qd7]at key
 have e:?HR=?wW:=by
  have e1:?HR=det k λx y=>?IW:=C0 λx y hx hy=>by
   rw[←hd x y hx hy];unfold Vk;ext dT;rw[Qy (p':=λc=>?A7) (q':=?yG) (λa ha=>bZ hl x a ha) (λb hb=>bZ hr y b hb),Uo]
   have in1:∀u,u<n->?Z5 (P u) (?yG)=?zD:=λu hu=>by
    rw[bil_flip,Uo]
    have e2:∀v,v<w->?MS*bil w n (tr A) (Q v) (P u)=if v=u then f u*?x0 else 0:=λv hv=>by
     rw[←bil_flip,?k6 u v hu hv];by_cases z:v=u
     . subst z;rw[?r,?r,qf1]
     . rw[?h ?SW,?b2,qc7]
    rw[Ai e2];by_cases z:u<w
    . rw[?aH z λv _ ne=>?eM,?r];by_cases z2:u<m
      . rw[?q z2]
      . rw[?h z2,?lH u ?d hu z,qg2]
    . rw[?bP λv hv=>?l,?l]
   have in2:?YQ (λu=>?j9*bil n w A (P u) ?yG)=?HG:=Ai λu hu=>by rw[in1 u hu]
   rw[in2];have e3:?HG=Aj (λu=>?j9*?zD) m:=?jE mn λu hu _=>by rw[?l,qc7]
   rw[e3];exact Ai λu hu=>by rw[?q hu,qe0]
  rw[e1,Uf λx y hx hy=>?l];exact Yy λx _=>?r
 rw[e]at key;exact key
def Ed.few{n w m E k:Nat}[?BY][?tJ][?BN](hp:∀x,x<k->0<f' x):k<=m:=by
 rcases qg4 m k with z | z
 . have:=h.dvdP hl hr (k:=m+1) (?ZB hd) (g:=0) λs hi hs=>by
    let ?MF:=cN m s λx y hx hy e=>?a1X hi e;have:=?U3;omega
   have p:0<?a3 f' ?dI:=Cd λj hj=>?uJ;have:=Int.zero_dvd.mp ?aG;omega
 . exact z
def Ed.pdvd{n w m E k:Nat}[?BY][?tJ](hc:?L3)[?BN]:?jZ∣ ?wW :=
 h.dvdP hl hr hd λs hi hs=>GB (m:=m) (λa b hab hb=>by
  rcases qg4 a b with z | z
  . exact hc a b O9m z hb
  . rw[?YS a b];exact qy4 _) k s hi hs
def bil_via{n n' w:Nat}{A A' U:Mat}(hU:∀a b,a<n'->b<w->A' a b=?YQ (λi=>U a i*A i b))(p q:?s):bil n' w A' p q=?Z5 (λi=>Aj (λa=>p a*U a i) n') q:=by
 unfold bil
 have e:∀a,a<n'->p a*?MH=?YQ (λi=>p a*U a i*?JS):=λa ha=>by
  have e1:?MH=?YQ (λi=>U a i*?JS):=by
   rw[?a0C hU,Cz];exact Ai λi _=>by rw[←Ba];exact Ai λb _=>?h0
  rw[e1,←Ba];exact Ai λi _=>(?h0).symm
 rw[?i6,Cz];exact Ai λi _=>by rw[←Ee]
universe Lat
namespace Hb
open PySem L2
abbrev Drawn(h w b0:Nat):Prop:=(h<=7/\w<=8/\b0=4)\/(h<=4/\w<=5/\b0=22)\/(h<=2/\w<=3/\b0=69)
structure Rm[?F](H:Hp)(tp nm r1 D1 D2 b2:Addr)(n w k:Nat)[?d5](l r:?kV):Prop where
 tup:SqT K H tp [?p nm,?p r1,?p D1,?p D2,?p b2]
 num:?a09 nm (VI k f)
 left:?Z0 (?p r1) (dT n n l.1)
 lback:?Z0 (?p D1) (dT n n λi j=>l.2 j i)
 right:?Z0 (?p D2) (dT w w λi j=>r.1 j i)
 rback:?Z0 (?p b2) (dT w w r.2)
def j5.r[?V][?c4][?XB][?d2][?X4]:?PN:=#[x.tup,.of x.num,?BF,?uG,?w7,?wJ]
def Rm.same[?V][?c4][?XB][?d2][?X6][?cG]:?PN:=#[s.seqT x.tup,s.seq x.num,?o3 s ?BF,?o3 s ?uG,?o3 s ?w7,?o3 s ?wJ]
section
variable[?F]
universe e9
structure Sta where
 T:?cC
 f:?cC
 l:?cC
 lb:?cC
 r:?cC
 rb:?cC
abbrev dot(x y:?s)(n:Nat):Int:=?YQ (λk=>x k*y k)
abbrev dl(a b:Nat):Int:=if b=a then 1 else 0
structure Good(h w:Nat)(S:Sta):Prop where
 l1:∀r s,r<h->s<h->dot (S.l r) (S.lb s) h=dl r s
 l2:∀a b,a<h->b<h->Aj (λk=>S.lb k a*S.l k b) h=dl a b
 r1:∀r s,r<w->s<w->dot (S.r r) (S.rb s) w=dl r s
 r2:∀a b,a<w->b<w->Aj (λk=>S.rb k a*S.r k b) w=dl a b
 now:∀i j,i<h->j<w->S.f i j=dot (λb=>dot (S.l i) (λa=>S.T a b) h) (S.r j) w
abbrev unit:?cC:=?RN
universe Hb
namespace Lat
open Hb
def sumN_fst(g:?s):∀n,?GM=g 0+?LV
 | 0=>by show Aj g 0+g 0=_;show 0+g 0=g 0+0;omega
 | n+1=>by
   show ?GM+g ?C=g 0+(?LV+g ?C)
   rw[?M4 g n,qx3]
abbrev W6(A:Mat)(j:Nat):Mat:=λr c=>A ?eD (if c<j then c else c+1)
def DL:∀(n:Nat) (A:Mat),det ?C A=?EP
 | 0,A=>rfl
 | n+1,A=>by
   have e:∀i j,i<n+1->j<n+1->?H8=?TM:=λi j _ _=>C0 λr c _ _=>by
    show A (if r+1<i+1 then r+1 else r+1+1) ((if c<j then c else c+1)+1)=A ((if r<i then r else r+1)+1) (if c+1<j+1 then c+1 else c+1+1)
    congr 1
    . split<;>split<;>omega
    . split<;>split<;>omega
   show Aj (λi=>Ta i*A i 0*?ZT Ge i) (n+1+1)=_;rw[sumN_fst,?M4 (λj=>?N5*?ZT W6 j)];have e0:?ZT Ge 0=?ZT W6 0:=rfl;rw[e0]
   congr 1
   have l:Aj (λi=>?OY*?ZT Ge ?L) ?C=Aj (λi=>Aj (λj=>?OY*(Ta j*A 0 ?a0*?H8)) ?C) ?C:=Ai λi _=>by
    rw[DL n,Ba];rfl
   have r:Aj (λj=>?IL*?ZT W6 ?a0) ?C=Aj (λj=>Aj (λi=>?IL*(Ta i*A ?L 0*?TM)) ?C) ?C:=Ai λj _=>by
    rw[Ba];rfl
   rw[l,r,Cz];apply Ai λj hj=>?zB;rw[e i j hi hj,Ym,Ym]
   grind
def Ug:∀(n:Nat) (A:Mat),det n (λr c=>A c r)=det n A
 | 0,_=>rfl
 | n+1,A=>by
   rw[DL n A];apply ?zB;rw[←Ug n (W6 A i)];rfl
abbrev wD(n w:Nat)(A:Mat)(D:Nat):Prop:=∀(k:Nat) (r c:?t),(∀x,x<k->r x<n)->(∀y,y<k->c y<w)->(det k λx y=>A ?gS (c y)).natAbs<=D
def iU(k:Nat)(r:?t):(?NM)\/∀x y,x<k->y<k->r x=r y->x=y:=by
 by_cases h:?NM
 . exact ?i h
 . exact ?o λx y hx hy e=>qo4 λz=>h #[x,y,hx,hy,z,e]
def RN{k:Nat}(M:Mat)(s:?t){y0:Nat}(h0:y0<k):?a2R ?RX ?EO:=by
 by_cases z:y0=0
 . subst z
   congr 1
   exact C0 λx y _ _=>by
    by_cases q:y=0
    . rw[?t7,q]
    . rw[?hG,?hG]
 rw[←Ug k ?EO,←Ug k ?RX];have e:=gI (A:=?kH) (?XT 0 k) h0 (?SW) (?sN) (?uD)
 have e1:B5 (B5 ?j8 0 ?sN) y0 (?uD)=?kH:=by
  rw[show B5 ?j8 0 (?sN)=?kH from Hd ?j8 0];exact Hd ?j8 y0
 have e2:B5 (B5 ?j8 0 ?uD) y0 (?sN)=?M0:=by
  funext y x
  unfold B5;by_cases q:y=y0
  . rw[?t7,?l,?t7]
  . rw[?hG];by_cases q2:y=0
    . rw[?q q2,?q q2]
    . rw[?h q2,?h q2,?hG]
 rw[e1,e2]at e;show ?a2R ?M0 ?kH;rw[e,qc6]
def Wv[?XD]:∀(k:Nat) (r s:?t),(∀x,x<k->r x<n)->(∀y,y<k->s y<w+n)->(det k ?NX).natAbs<=D
 | 0,r,s,hr,hs=>h 0 r s hr λy hy=>O9m
 | k+1,r,s,hr,hs=>by
   rcases iU ?T r with⟨x,y,hx,hy,ne,e⟩ | inj
   . rw[?UH];ext cH
   by_cases z:∃y,y<k+1/\w<=s y
   . let#[y0,hy,q]:=z;rw[←RN (λx y=>?ZV y) s hy]
     have first:∀s':?t,w<=s' 0->(∀y,y<k+1->s' y<w+n)->(det ?T ?K9).natAbs<=D:=λs' h0 hs'=>by
      show(Aj (λi=>Ta i*?X w A one (r i) (s' 0)*?IG) ?T).natAbs<=D;have ih:∀i,i<k+1->(?IG).natAbs<=D:=λi hi=>Wv h k (λx=>r (if x<i then x else x+1)) (λy=>s' (y+1)) (λx hx=>hr _ (by ext f6)) λy hy=>hs' _ O9m
      have cell:∀x,?ZV (s' 0)=if r x=s' 0-w then 1 else 0:=λx=>by
       unfold beside one;ext dT
      by_cases z:∃i,i<k+1/\r i=s' 0-w
      . let ?DD:=z
        rw[?aH hi λx hx ne=>by
         rw[cell,?h λq=>ne (inj x i hx hi (q.trans ?i1))];simp]
        rw[qb6,qb6,Xm,qf9,cell,?dK];show 1*_<=D;rw[qf9];exact ih i hi
      . rw[?bP λx hx=>by
         rw[cell,?h λq=>z #[x,hx,q]];simp]
        ext cH
     exact first (λy=>?Y0 0) q λy hy'=>hs _ (by split;omega;ext f6)
   . have e:det ?T (?NX)=det ?T λx y=>A ?gS (s y):=C0 λx y _ hy=>?iM (qk1 λq=>z #[y,hy,q]);rw[e];exact h ?T r s hr λy hy=>qk1 λq=>z #[y,hy,q]
def wD.dets[?XD]:?F2:=λi hi s hs=>Wv h i (λx=>x) s (?HY) hs
def few{n k:Nat}{f:?t}(h:∀x,x<k->f x<n)(inj:∀x y,x<k->y<k->f x=f y->x=y):k<=n:=by
 rcases qg4 n k with z | z
 . let#[x,h1,h2]:=cN n f λx y hx hy e=>?a1X inj e;have:=h x O9m;omega
 . exact z
def IM{n w B D:Nat}{A:Mat}(hA:∀i c,i<n->c<w->?MJ<=B)(hD:∀i,i<=n->i<=w->DI i*B ^ i<=D):?NO:=λk r c hr hc=>by
 rcases iU k r with⟨x,y,hx,hy,ne,e⟩ | h1
 . rw[?UH];ext cH
 . rcases iU k c with⟨x,y,hx,hy,ne,e⟩ | h2
   . rw[←Ug,Ff (A:=λr' c'=>A (r c') (c r')) hx hy ne ?JD];ext cH
   . exact qa5 (rN λx y hx hy=>hA _ _ (hr x hx) (hc y hy)) (hD k (few hr h1) (few hc h2))
structure Us(k w:Nat)(Q:Mat)(p:?t):Prop where
 zero:∀j c,?gB->j<w->c<p j->Q j c=0
 inc:∀i j,k<=i->i<j->j<w->p i<p j
 lt:∀j,?gB->j<w->p j<w
 pos:∀j,?gB->j<w->0<Q j ?fL
 red:∀i j,k<=i->i<j->j<w->0<=Q i ?fL/\Q i ?fL<Q j ?fL
def Q6.loops{n w r:Nat}[?tT]{T Q:Mat}(h:Q6 w (n+w) n r kt hd (?X n T Q)):Us r w Q λj=>kt j-n:=by
 have at':∀i j,?eQ->j<w->Q i (kt j-n)=?X n T Q i ?iF:=λi j h1 h2=>by
  have:=?JU;rw[←?GL n T Q i (kt j-n),show n+(kt j-n)=kt j by omega]
 apply#[?J5,?JA,?FB,?FB,?JA]
 . rw[←?GL n T Q j c];exact ?lH j _ h1 h2 O9m
 . have:=h.inc i j h1 h2 h3;have:=h.ge i h1 O9m;omega
 . have:=?ZI h.lt;have:=?JU;omega
 . rw[at' j j h1 h2,?ZI h.head];exact ?O1
 . rw[at' i j ?d h3,at' j j ?d h3,h.head j ?d h3];exact h.red i j O9m h2 h3
def Us.congr{k w:Nat}{Q Q':Mat}{p:?t}(h:?uH)(e:∀j,?gB->Q' j=Q j):Us k w Q' p :=
 #[λj c h1 h2 h3=>by rw[e j h1];exact ?lH j c h1 h2 h3,h.inc,h.lt,λj h1 h2=>by rw[e j h1];exact ?O1,λi j h1 h2 h3=>by rw[e i h1,e j ?d];exact h.red i j h1 h2 h3]
universe Lat
namespace Hb
open Lat
structure lH(n w b0 D π b β D2 π2 b2 β2 C1 C2 F:Nat):Prop where
 dπ:D<=?bH
 nb:n*D<=?bO
 wb:w*D<=?bO
 b0π:b0<=π
 πb:π<=b
 bβ:b<β
 nβ:n+b0<β
 st:∀i,i<n->?JH
 π9:?A6
 d2:∀i,i<=n->i<=w->?uC<=D2
 dπ2:D2<=?kR
 wb2:w*D2<=?wU
 bπ2:b<=π2
 πb2:π2<=b2
 bβ2:b2<β2
 wβ2:w+b<β2
 st2:∀i,i<w->?O8
 π92:?NK
 c1:∀r,r<=n->r<=w->?a1S π n<=C1
 c2:∀r,r<=n->r<=w->?a1S π2 w<=C2
 f1:?a2E F
 f2:?a2K F
 fb:F<=vW
section
variable{n w b0 D π b β D2 π2 b2 β2 C1 C2 F:Nat}{A:Mat}
abbrev UF[?XA](m:Nat)(M:Mat)(l r:?cY):Prop:=∃(k:Nat) (e:Int) (kl kr:?t) (hl hr:?s),Sz n w k D π m e A M l.1 l.2 r.1 r.2 kl kr hl hr/\m<=?aL/\e<=D/\(∀j,?gB->j<n->hl j<=?bH)/\(∀j,?gB->j<w->hr j<=?kR) ∧
 ?a6 n n (?k4) l.1/\?a6 n n (?k4) l.2/\?a6 w w (?h5) r.1/\?a6 w w (?h5) r.2/\?p4/\?AE/\?B5
def Ad4[?VY]:S0 n w A ?T0 ?T0 (λM l r=>∃m,?J0):=by
 have o0:∀b i j,?N2<=?bO:=λb i j=>qa5 (ZJ i j) qm0;have hM:=bT (W:=n) hA λi c _ _=>o0 b0 i c;apply#[JF n w (?X w A one),Wp hM ?fD ?gN p.nb p.b0π (qa5 p.b0π p.πb) p.bβ p.nβ p.st ?p5 (Ud n w A),?GG,JF.lt,λt1 s1 h1=>?_];have hR:∀i c,i<w->c<n->((λi j=>s1.1 j i) i c:Int).natAbs<=?bO:=λi c hi hc=>qa5 (h1.rowD ?fD ?I (λc h=>h) hc (show i<w+n by omega)) p.nb;have hM2:=bT (W:=w) hR λi c _ _=>o0 b i c;have kY:Ox w (λc=>c<n+w) (?X n (tr s1.1) one) D2:=(IM hR λi h1 h2=>p.d2 i h2 h1).dets;apply#[JF w n (?X n (λi j=>s1.1 j i) one),Wp hM2 kY p.dπ2 p.wb2 p.bπ2 (qa5 p.bπ2 p.πb2) p.bβ2 p.wβ2 p.st2 p.π92 (Ud w n _),?GG,JF.lt,λt2 s2 h2=>?_];have bb1:=Sq hM ?fD (λk a=>rfl) h1 ?I p.nb (qa5 p.b0π p.πb) p.bβ p.nβ;have bb2:=Sq hM2 kY (λk a=>rfl) h2 ?I p.wb2 (qa5 p.bπ2 p.πb2) p.bβ2 p.wβ2;let#[k,e,kn,kw,he,wk,hl,hr]:=HD (L:=π) ?fD kY h1 h2
 have up:∀{x:Int}{a q:Nat},x<=a->a<=2 ^ q->x<=2 ^ q:=λ{x a q} h1 h2=>by
  exact qv6 h1 (by exact_mod_cast h2)
 have km:k*?eJ<=?aL:=?UW;exact#[k*?eJ,k,e,_,_,_,_,wk,km,he,λj _ h=>up (hl j h) ?gN,λj _ h=>up (hr j h) p.dπ2,Lm (Wu bb1.1) ?tG,Lm bb1.2.1 ?tG,Lm (Wu bb2.1) ?tG,Lm bb2.2.1 ?tG,(Ov.one n).go h1.good.pt,(Ov.one w).go h2.good.pt,λj c _ hj hc=>qa5 (h2.rowD kY ?I (λc h=>h) hj (show n+c<n+w by omega)) p.wb2]
def ZX(p:?RW){m:Nat}{M:Mat}{l r:?cY}(h:?J0)(ns:¬Straight n w M):S0 n w M l r (λM' l' r'=>∃m',m'<m/\UF n w D π β π2 β2 b2 A m' M' l' r'):=by
 let#[k,e,kl,kr,hl,hr,wk,hm,he,ηl,ηr,q1,q2,q3,q4,v1,v2,sp]:=h;let#[lg,le]:=zX he ?gN ?dE;have rn:=wk.going.sq.rn;have rw':=wk.going.sq.rw;have c1:=p.c1 k rn rw';have c2:=p.c2 k rn rw';ext W7
 have sC:∀C,(?aL-m)*C+C<=(?aL+1)*C:=λC=>by
  rw[qg0,qf9];exact qq9 (?OG) _
 ext WY;have b1:?k4+Mn π b π k n<=big:=O9m
 have tK:?h5+Mn π b π2 k w<=big:=O9m
 have β1:?hS<=?k4:=by have:=p.πb;have:=p.bβ;omega
 have β1':π2+1<=?h5:=by have:=p.πb2;have:=p.bβ2;omega
 have tb:∀{n' w':Nat}{T:Mat}{x:Nat},?hS<=x->Fl n' w' k D e T->∀i c,i<n'->c<w'->?lM<2 ^ x:=λ{n' w' T x} hx g i c hi hc=>by
  let#[g1,g2]:=g.le i c hi hc;have:?lM<=?bH:=O9m
  exact qc2 ?aG (?pD)
 have bl:=Wt (tb β1 ?kT) q1;apply#[JL n w k (?X w M l.1) l.2 kl hl π b π (?k4),Wm ?kT ?dE ?r7 wk.dl ηl β1 b1 ?gN le p.nb p.πb ?p5 ?p5,λt=>?i #[?cX,?PQ,wk.kl.bits ηl bl q2 β1],JL.lt,λt1 u1 j1=>?_];let#[#[G1,K1],_,_]:=JL.done rn j1 c1;let#[d1,d2,d3,d4]:=N9 ?dE ?kT ?r7 K1 wk.told;have z1:=aK (G:=G1) ?dE le ?kT d2 ?r7 d3 ?G5 q1;have z2:=X3 ?dE le ?kT ?r7 ?G5 K1.st.st (λj hj=>K1.tab j hj O9m) (?a05 K1.ker) wk.dl q2;have ker:Q6 w (n+w) n k kr hr (?Z2 i):=wk.kr.table λi c h1 h2 h3=>d2.sq.row0 i c h1 h2 h3;have dr:Fn w n (?Z2 i) r.2:=G8 wk.dr;have hπ2:?hS<=?h5:=by have:=p.πb;have:=p.bπ2;omega
 have br:=Wt (tb hπ2 d2) q3;apply#[JL w n k (?Z2 i) r.2 kr hr π b π2 (?h5),Wm d2 ?dE ker dr ηr β1' tK ?gN le p.wb p.πb ?p5 p.π92,λt=>?i #[?cX,?PQ,ker.bits ηr br q4 β1'],JL.lt,λt2 u2 j2=>?_];let#[#[G2,K2],_,_]:=JL.done rw' j2 c2;let#[_,nx]:=wk.next lg K1 K2;let#[m0,wk']:=nx ns;have k2:∀x c,x<w->c<n->tr u1.1 x c=bil w n (tr A) (r.1 x) ((?JJ) c):=λx c hx hc=>Uv (T:=u1.1) (P:=?JJ) d4 x c hx hc;let#[h1,h2,h3,h4]:=N9 ?dE d2 ker K2 k2;have y1:=aK (G:=G2) ?dE le d2 h2 ker h3 ?z3 q3;have y2:=X3 ?dE le d2 ker ?z3 ?DT (λj hj=>K2.tab j hj O9m) (?a05 K2.ker) dr q4
 have en:∀C,(?G4)*C=(?aL-m)*C+C:=λC=>by
  rw[show ?G4=?aL-m+1 by omega,qg0,qf9]
 apply#[m-1,O9m,k,e,kl,kr,hl,hr,wk',O9m,he,ηl,ηr,?_,?_,?_,?_,v1.go K1.st.good.pt,v2.go K2.st.good.pt,?J5]
 . rw[en,←qr2];exact z1
 . rw[en,←qr2];exact z2
 . rw[en,←qr2];exact y1
 . rw[en,←qr2];exact y2
 . show(u2.1 j (n+c)).natAbs<=_;rw[lP d2 ker ?z3 ?DT (λj hj=>K2.tab j hj ?d) (?a05 K2.ker) h1 h2 (n+c) ?d,beside_hi];exact sp j c h1 h2 h3
abbrev YF[?XA](k d:Nat)[?d5](l r:?cY):Prop:=?EN/\d<=5*k+k*k/\BB n n (λ_=>False) 0 (β+?sO*?eP+d*(2*π+4)) l/\BB w w (λ_=>False) 0 (β2+?sO*?hY+d*?eJ) r/\?p4/\?AE/\(?L5)/\?B5
structure Ag3(n w D F b2:Nat)(A:Mat)(k:Nat)[?d5](l r:?cY):Prop where
 dg:?EN
 il:?p4
 ir:?AE
 bl:?a6 n n F l.1/\?a6 n n F l.2
 br:?a6 w w F r.1/\?a6 w w F r.2
 lo:?L5
 sp:?B5
def Ap9[?VY]:j6 n w A (Ag3 n w D F b2 A):=by
 apply#[UF n w D π β π2 β2 b2 A,YF n w D π β π2 β2 b2 A,Ad4 p hA ?fD,λm M l r h ns=>ZX p h ns,?_,?_,?_]
 . rintro m M l r ⟨k,e,kl,kr,hl,hr,wk,hm,he,ηl,ηr,q1,q2,q3,q4,v1,v2,sp⟩ hS;have dg:=wk.diag hS;have sC:∀C,(?aL-m)*C<=?sO*C:=λC=>?OG;ext WY;apply#[k,?xX,qA ?tH _ (?G6) λx h1 h2=>dg.zero x h1 O9m O9m,dg.mn,dg.mw,dg,?cX,#[Lm q1 O9m,Lm q2 O9m,?E5],#[Lm q3 O9m,Lm q4 O9m,?E5],v1,v2,#[_,wk.kr.loops],sp]
 . rintro k d i j f l r ⟨dg,hd,bl,br,v1,v2,⟨pl,lo⟩,sp⟩ hdk hij hj;have mn:=dg.mn;have mw:=dg.mw
   have lf:∀x,x<k->(f x).natAbs<=?bH:=λx hx=>by
    have h1:=dg.le hx;have h2:=?tH x hx;exact qa5 O9m ?gN
   have kk:5*k+k*k<=5*?B+?B*?B:=by
    have h:k<=?B:=O9m
    have:=qf5 h h;omega
   ext W7
   have dm:∀X,d*X+X<=?YK X:=λX=>by
    have:=qc0 X (show d+1<=5*?B+?B*?B+1 by omega);rw[qg0,qf9]at this;ext c3
   have d1:=dm (2*π+4);have d2:=dm ?eJ;ext W6;ext WX;have b1:BB n n (λ_=>False) 0 (β+?aL*?eP+d*(2*π+4)+(1+1)) (addS i j 1 l):=bl.add O9m O9m (k:=1) (c:=1) ?Y;have lt1:∀{x:Nat},x<=?bH->x<2 ^ (?hS):=λh=>qc2 h (?pD);apply#[#[#[?R4,?a1M ?lC],#[by have:=?tH j hj;omega,?a1M ?m5],#[?kX bl O9m,?kX b1 O9m],?kX br O9m],λkU=>#[dg,O9m,bl.mono (by rw[qg0];omega),br.mono (by rw[qg0];omega),v1,v2,#[pl,lo],sp],λg a b' sh=>#[?_,O9m,?_,?_,?_,?_,#[pl,lo.congr ?uV],λx c h1 h2 h3=>?_]]
   . have:=dg.share hij hj sh;unfold shL TX YW addS blendS;simp only[qo6];ext c3
   . have lb:(?Q7).natAbs<2 ^ (2*π+1):=by
      apply qc2 (qg7 _ _) ?_;rw[qb6];apply qc2 (qf5 (qa5 sh.lb ?lC) ?m5) ?_;rw[←qe8];ext CA
     have tK:=b1.add (p:=j) (q:=i) O9m O9m (k:=-(?Q7)) (c:=2*π+1) (by rw[qc6];exact lb);apply tK.mono ?_;rw[qg0,qf9];omega
   . have:=br.blend (p:=i) (q:=j) O9m O9m O9m (x:=a) (y:=b') (z:=-(f j / g)) (u:=f i / g) (c:=?hS) (lt1 (qa5 sh.la ?m5)) (lt1 (qa5 sh.lb ?lC)) (lt1 (by rw[qc6];exact qa5 (qg7 _ _) ?m5)) (lt1 (qa5 (qg7 _ _) ?lC));apply this.mono ?_;rw[qg0,qf9];omega
   . intro x y hx hy;rw[←v1 x y hx hy];exact(?a2F j i).trans (?a2F i j)
   . intro x y hx hy;rw[←v2 x y hx hy];exact fG _ _ (?XT i w) (?XT j w) O9m (sh.blend (π:=π) (?R4) ?lC ?m5).one x y
   . exact ?J4
   . have e:(TX i j g a b' f r).1 x=r.1 x:=?J4;rw[e];exact sp x c h1 h2 h3
 . rintro k d f l r ⟨dg,hd,bl,br,v1,v2,lo,sp⟩;have h:k<=?B:=?G6
   have kk:=qf5 h h;have f1:=p.f1;have f2:=p.f2;have dm:∀X,d*X<=?YK X:=λX=>qc0 X O9m;ext W6;have d1:=dm (2*π+4);have d2:=dm ?eJ;ext WX;exact#[dg,v1,v2,#[(?YN bl.mono).1,(?YN bl.mono).2.1],#[(?YN br.mono).1,(?YN br.mono).2.1],lo,sp]
universe e9
universe Hb
namespace Lat
open Hb
abbrev mulV(w:Nat)(A:Mat)(x:?s):?s:=λi=>Aj (λj=>A i j*x j) w
def GS(n w:Nat)(A:Mat)(p x:?s):?Z5 p x=?YQ (λa=>p a*?cP w A x a):=rfl
def rX{w:Nat}{Q QB:Mat}(h:?RG)(x:?s):∀c,c<w->x c=Aj (λy=>?YZ x y*Q y c) w:=bZ (P':=λ_=>x) h 0
abbrev numAt[?d5](k i:Nat):Int:=if i<k then f i else 0
section
variable[?XH][?f7]
universe e9
universe Lat
namespace Hb
open PySem L2
def Aq6(a b:Int):?j (?a7 a=?a7 b)=?j (a=b):=by
 by_cases z:a=b
 . rw[z];simp
 . rw[qf2 z,qf2 (λq=>z (V.int.inj q))]
section
variable[?F]
abbrev Jh[?d6]:Sp:=λvs H Q _=>F1 λ(v d:Int)=>Dw (vs=[?rW,?f d]) (0<=d) (Q (.bl (?j (d∣v))) H)
universe e9
section
variable[?F]
universe e9
universe Hb
namespace Lat
open Hb
section
variable[?XH][?f7]
def TL{u:?s}(hl:?RL)(hu:∀x,x<n->?IU=0):∀a,a<n->u a=0:=λb hb=>by
 have e:?LX=u b:=by
  have:?LX=?YQ (λx=>Aj (λa=>u a*(PB x b*P x a)) n):=Ai λx _=>by
   rw[←Ba];exact ?a1G ?iU
  rw[this,Cz]
  rw[?aH hb λa ha ne=>by
   rw[Ba];have:=hl b a hb ha;unfold pT at this;rw[this,?h λq=>ne ?pK,qc7]]
  rw[Ba];have:=hl b b hb hb;unfold pT at this;rw[this,?r,qk5]
 rw[←e];exact ?a1I hu
def Ed.spare(h:?NA)(hl:?RL){y:Nat}(h1:k<=y)(h2:y<w):∀x,x<n->?cP w A (Q y) x=0 :=
 TL hl λx hx=>by
  have:=?k6 x y hx h2;rw[GS]at this;rw[this];by_cases z:x=y
  . rw[?a8,z];exact ?lH y h1 O9m h2
  . rw[?b2]
def Ed.madeS(h:?NA)(hr:?IC)[?nA](hv:∀x,x<n->?cP w A v x=0):∀c,c<w->v c=Aj (λi=>?x5*?nU) ?kB:=λc hc=>by
 have mw:=h.mw;have mn:=h.mn
 have z:∀y,y<k->?vO=0:=λy hy=>by
  have e1:?JW=0:=by
   rw[GS];exact ?a1I hv
  have e2:?JW=f y*?vO:=by
   rw[Qy (p':=P y) (q':=λc=>Aj (λu=>?YZ v u*Q u c) w) ?bA (λb hb=>rX hr v b hb),bil_flip,Uo];rw[?aH (?XT y w) λu hu ne=>by rw[←bil_flip,?k6 y u ?d hu,?h λq=>ne ?pK,qc7]];rw[←bil_flip,?k6 y y ?d ?d,?r,qf1]
  rw[e2]at e1;have p:=?gQ y hy;rcases qn6.mp e1 with q | q
  . omega
  . exact q
 rw[rX hr v c hc]
 have sp:∀d,k+d<=w->?UI=Aj (λi=>?x5*?nU) d:=λd=>by
  induction d with
  | zero=>intro _;exact ?bP λy hy=>by rw[z y hy,qg2]
  | succ d ih =>
    intro hd;have i1:=?m2;show ?UI+?YZ v (k+d)*Q (k+d) c=_;rw[i1];rfl
 have:=sp ?kB O9m;rw[show k+?kB=w by omega]at this;ext c3
universe e9
section
variable{n w m i:Nat}{d v:?s}{A:Mat}
universe e9
universe Lat
namespace Hb
open Lat
abbrev pV(n w b0 π b β π2 b2 β2 C1 C2 F:Nat):Bool :=
 (?j (n*?bH<=?bO/\w*?bH<=?bO/\b0<=π/\π<=b/\b<β/\n+b0<β)&&(i5 n (λi=>?j (?JH))&&(?j (?A6) &&
 (i5 (?B+1) (λi=>?j (?uC<=?kR))&&(?j (w*?kR<=?wU/\b<=π2/\π2<=b2/\b2<β2/\w+b<β2)&&(i5 w (λi=>?j (?O8))&&(?j (?NK) &&
 (i5 (?B+1) (λr=>?j (?a1S π n<=C1/\?a1S π2 w<=C2)) &&
 ?j (?a2E F/\?a2K F/\F<=vW)))))))))
def PU{n w b0 π b β π2 b2 β2 C1 C2 F:Nat}(h:pV n w b0 π b β π2 b2 β2 C1 C2 F=true):?a02 (?bH) (?kR):=by
 unfold pV at h;simp only[qc3,qp7]at h;let#[#[h2,h3,h4,h5,h6,h7],h8,h9,k1,#[k2,k3,k4,k5,k6],k7,k8,k9,m1,m2,m3]:=h
 exact#[?bM,h2,h3,h4,h5,h6,h7,λi hi=>qd5 (K5 h8 i hi),h9,λi h1 h2=>qd5 (K5 k1 i O9m),?bM,k2,k3,k4,k5,k6,λi hi=>qd5 (K5 k7 i hi),k8,
  λr hr hw=>(qd5 (K5 k9 r O9m):_/\_).1,λr hr hw=>(qd5 (K5 k9 r O9m):_/\_).2,m1,m2,m3]
universe Hb
namespace Lat
open Hb
abbrev mD:(?t)->?t
 | _,0=>1
 | B,n+1=>B 0*?jH
def Ws:∀{n:Nat}{A:Mat}{B:?t},(∀r c,r<n->c<n->(A r c).natAbs<=B r)->(det n A).natAbs<=DI n*?y7
 | 0,A,B,_=>by show ?AD<=1*1;decide
 | n+1,A,B,h=>by
   rw[DL]
   have e:(?EP).natAbs<=?C*(B 0*(DI n*?jH)):=O7 λj hj=>by
    have d:=Ws (n:=n) (A:=W6 A j) (B:=?A9) λr c hr hc=>by
     unfold W6;exact h ?eD _ O9m (by ext f6)
    rw[qb6,qb6]
    have s:(Ta j).natAbs=1:=by
     unfold Ta;split<;>rfl
    rw[s,qf9];exact qf5 (h 0 j O9m hj) d
   apply qa5 e (qm9 ?_);show ?C*(B 0*(DI n*?jH))=(?C*DI n)*(B 0*?jH)
   grind
def uE(B:?t):∀n,mD (λr=>2*B r) n=2 ^ n*?y7:=λn=>by
 induction n generalizing B with
 | zero=>rfl
 | succ n ih =>
   show 2*B 0*mD (λr=>2*B ?eD) n=?rB*(B 0*?jH);rw[ih ?A9,qh9]
   grind
def UE{B:?t}:∀{n:Nat},(∀r,r<n->0<B r)->0<?y7:=λ{n} h=>by
 induction n generalizing B with
 | zero=>exact Nat.one_pos
 | succ n ih=>exact Nat.mul_pos (h 0 O9m) (ih λr hr=>h ?eD O9m)
def PM[?f7]:∀{n:Nat},(?yJ).natAbs=mD (λr=>(f r).natAbs) n:=λ{n}=>by
 induction n generalizing f with
 | zero=>rfl
 | succ n ih =>
   have e:∀m,?IV=f 0*?QO:=λm=>by
    induction m with
    | zero=>show 1*f 0=f 0*1;omega
    | succ m im =>
      show ?IV*f ?dI=f 0*(?QO*f ?dI);rw[im,qe0]
   rw[e n,qb6,ih];rfl
section
variable[?XC]
def Us.stair{k w:Nat}{Q:Mat}{p:?t}(h:?uH):Dl w ?kB (λi=>Q ?b9) λi=>p ?b9 :=
 #[λj hj=>h.lt ?dL O9m O9m,?a06 h.inc,λj c hj hc=>?lH ?dL c O9m O9m hc,λj hj=>?gQ ?dL O9m O9m,?a06 h.red]
def EM(st:?zN)(hB:?TF){r c:Nat}(hr:r<z)(hc:c<w):B ?iB c=Aj (λk=>L k ?iB*T k c) ?eD:=by
 rw[hB _ _ (?gM r hr) hc];exact ?jE O9m λk h1 h2=>by rw[?s9 k _ h2 (?jM r k ?d h2),qg2]
def JK[?BK]{i c:Nat}(hi:i<z)(hc:c<w):?lM<=?oG*2:=by
 apply AM (R:=L) (B:=T) (t:=p) (a:=c) (i:=z) #[λj k _=>?jM j k,?PJ,?UP,λk j _=>?t5 k j] (?jY) i hi;rw[show Aj (λk=>T k c*L k ?fL) z=B ?fL c by rw[hB _ _ (?gM j hj) hc];exact Ai λk _=>?nL];have:=?PT;exact qa5 (b2 _ _ (?gM j hj) hc) (?vB)
def OB[?BK]:∀i,i<=z->∀s:?t,(∀l,l<i->s l<w+z)->(det i ?HO).natAbs<=?JM:=λi hi s hs=>by
 let Z:Mat:=?HO
 let V:Mat:=λr l=>?MZ
 have e:det i V=?a3 (λj=>L j ?fL) i*?L6:=BY (T:=λr j=>?yL) (λr c _ _=>rfl) i ?I
 have e2:?L6=det i Z:=C0 λr c hr _=>by
  show(if r<i then Z r c else V r c)=Z r c;rw[?q hr]
 rw[e2]at e
 have vle:∀r l,r<i->l<i->(?tD).natAbs<=2*?vK:=λr l hr hl=>by
  have pr:=?EJ;by_cases c1:s l<w
  . have:?tD=B ?iB (s l):=by
     rw[EM st hB ?d c1];exact Ai λj _=>by show ?yL*?H9=_;rw[?iM c1]
    rw[this];exact qa5 (b2 _ _ (?gM r O9m) c1) O9m
  . have zv:∀j,Z j l=if j=?i9 then 1 else 0:=λj=>by
     show ?H9=_;unfold beside;rw[?h c1];rfl
    by_cases c2:?i9<r+1
    . have:?tD=L (?i9) ?iB:=by
       show ?MZ=_;rw[?aH c2 λj _ ne=>by rw[zv,?eM,qc7],zv,?r,qk5]
      rw[this];rcases qg4 (?i9) r with q | q
      . let ?nE:=?t5 (?i9) r q O9m;omega
      . rw[?YS ?i9 r];omega
    . have:?tD=0:=?bP λj hj=>by rw[zv,?l,qc7]
      rw[this];ext cH
 have big:=Ws (B:=λr=>2*?vK) vle;rw[e,qb6,PM,uE]at big;have pos:0<?KE:=UE λr hr=>by have:=?EJ;omega
 apply qs8 (c:=?KE) ?_ pos;apply qa5 big (qm9 ?_)
 grind
universe e9
structure Lev(q m z:Nat)(D L G:Mat):Prop where
 st:∃p,?zN
 du:∀i j,i<z->j<z->Aj (λc=>G i c*L j c) m=?TH
 cyc:∀i,i<z->?ZE (L i)
 all:∀v:?s,(?ZE v)->∀c,c<m->v c=Aj (λi=>Aj (λa=>?hH*v a) m*L i c) z
abbrev gT(m:Nat)(G B:Mat):Mat:=λi c=>?EZ
section
variable{q m z w:Nat}{D L G B:Mat}
def Lev.first(m:Nat)(D:Mat):Lev 0 m m D one one:=by
 have d:∀i j,i<m->j<m->Aj (λc=>one i c*one j c) m=?TH:=λi j hi hj=>by
  rw[?aH hi λk _ ne=>?TS];ext bG;ext n3;by_cases z:i=j
  . rw[?a8,?q ?dO]
  . rw[?b2,?h ?w9]
 apply#[#[λi=>i,λj hj=>hj,λj k h _=>h,λj c _ hc=>?fF,λj _=>by show 0<one j j;ext bG;rw[?r];decide,λk j hk _=>?_],d,λi _ x hx=>O9m,λv _ c hc=>?_]
 . show 0<=one k j/\one k j<one j j;ext bG;rw[?l,?r];decide
 . rw[?aH hc λi hi ne=>by
    show _*one i c=0;ext bG;rw[?eM,qc7]]
   show v c=Aj (λa=>one c a*v a) m*one c c;rw[?aH hc λa _ ne=>?TS];ext bG;rw[?r,qd7,qk5]
def Lev.told[?WA]:∀a c,a<m->c<w->?fP=Aj (λi=>L i a*gT m G B i c) z:=λa c ha hc=>by
 rw[h.all (λa=>?fP) (tw c hc) a ha];exact Ai λi _=>?nL
def Ac9(m w:Nat)(G B:Mat)(v:?s)(i:Nat):?yX=Aj (λa=>?hH*?cP w B v a) m:=by
 have e1:?yX=Aj (λc=>Aj (λa=>?hH*?fP*v c) m) w:=Ai λc _=>by
  show ?EZ*v c=_;rw[←Ee]
 rw[e1,Cz]
 exact Ai λa _=>by
  show Aj (λc=>?hH*?fP*v c) w=?hH*Aj (λc=>?fP*v c) w;rw[←Ba];exact Ai λc _=>?h0
def Lev.next{E k:Nat}[?f7]{P PB Q QB:Mat}{p:?t}[?WA](dg:Ed z w k E (gT m G B) P PB Q QB f)(il:Ov z (P,PB))(ir:?IC)(lo:?uH) :
 Lev m w ?kB B (λi=>Q ?b9) λi=>QB ?b9:=by
 have tl:=?sV tw;have mw:=dg.mw;apply#[#[_,lo.stair],λi j hi hj=>?_,λi hi x hx=>?_,λv hv c hc=>?_]
 . have:=dg.dr ?dL ?b9 O9m O9m;unfold pD at this;rw[show Aj (λc=>?DZ*Q ?dL c) w=Aj (λc=>Q ?dL (0+c)*?DZ) w from Ai λc _=>by rw[qv1,qf1],this];by_cases z:i=j
   . ext mY
   . ext mX
 . have t0:=dg.spare il (y:=k+i) O9m O9m
   have e:?JV=Aj (λa=>L a x*?cP w (gT m G B) (Q ?b9) a) z:=by
    have e1:?JV=Aj (λc=>Aj (λa=>L a x*?OA*?nU) z) w:=Ai λc hc=>by
     rw[tl x c hx hc,←Ee]
    rw[e1,Cz]
    exact Ai λa _=>by
     show _=L a x*Aj (λc=>?OA*?nU) w;rw[←Ba];exact Ai λc _=>?h0
   rw[e];exact ?a1J t0
 . have t0:∀i,i<z->?yX=0:=λi _=>by
    rw[Ac9];exact ?a1J hv
   rw[dg.madeS ir t0 c hc];exact Ai λi _=>by rw[show ?x5=Aj (λa=>?VJ*v a) w from ?a1G ?nL]
universe e9
section
variable[?X7][?f7]
abbrev turnL(z:Nat)(P L:Mat):Mat:=λi c=>Aj (λj=>P i j*L j c) z
universe e9
universe Lat
namespace Hb
open Lat
abbrev kB(n:Nat):Nat:=?D8 (?wH)+1
abbrev qL(f:?t):?t
 | 0=>f 0
 | n+1=>max (f ?C) (qL f n)
abbrev kP(b i:Nat):Nat:=max b (?D8 (?uC)+1)
abbrev kS(n w:Nat):Nat:=?vQ+6
abbrev bookF:Nat:=26500000
abbrev Ax8(n w:Nat):Bool:=pV n w ?C ?oF ?nY (kB n+n+8) (?vQ) (kS n w) (kS n w+w+2) (?a1P ?oF n) (?a1P (?vQ) w) ?cO
def VT:(i5 41 λn=>i5 (41-n) λw=>Ax8 n w)=true:=?n
def Ad6:∀{i n:Nat},i<=n->?JM<=?wH:=λ{i n} h=>by
 induction n with
 | zero=>rw[?YS i 0];ext dV
 | succ n ih =>
   by_cases e:i=n+1
   . rw[e];ext dV
   . apply qa5 (?m2) ?_;show ?wH<=?C*DI n*?rB;exact qf5 (qn1 _ O9m) (?AW)
def oB[?XC][?BK](h:z+w<=40):j6 z w T (Ag3 z w (2 ^ kB z) ?cO (kS z w) T):=by
 have P:=PU (K5 (K5 VT z O9m) w O9m);apply Ap9 P (λi c hi hc=>?_) λi hi s hs=>?_
 . apply qa5 (JK st hB b2 hi hc) ?_;rw[←qh9];exact ?AW
 . apply qa5 (OB st hB b2 i hi s hs) (qa5 (Ad6 hi) ?_);exact qe6 Nat.lt_log2_self
universe Hb
namespace Hb
open PySem L2
noncomputable abbrev Ms:=?aM (?bC)
abbrev nd(ms:Ms):Prop:=(?a2 (·.1)).Nodup
abbrev nz(ms:Ms):Prop:=∀p∈ms,p.2≠0
abbrev Jf(ms:Ms)(k n:Int):Ms:=if ?h3=0 then ?e5 else ?bE ms k (?h3)
abbrev plusI(ms ns:Ms):Ms:=ns.foldl (λacc p=>Jf acc p.1 p.2) ms
abbrev timesI(n:Int)(ms:Ms):Ms:=if n=0 then [] else ?a0G n
abbrev Ss(ms:Ms):Ms:=ms.filter λp=>?j (p.2≠0)
abbrev wI(ns ms:Ms):Int:=(?rV λp=>?tB).sum
def Vm[?u0](h:?w6=?jF):?jW∈ms:=by
 induction ms with
 | nil=>simp[lookI]at h
 | cons p ms ih =>
   rw[Dm]at h;by_cases e:?eR
   . rw[?dK]at h;have:p=?jW:=by cases p;simp_all
     rw[this];exact ?jO
   . rw[?dR]at h;exact ?ZY (ih h)
def MM{ms:Ms}{k:Int}(h:k ∉ ?a2 (·.1)):?FV:=by
 cases e:lookI ms k with
 | none=>rfl
 | some v=>exact ?Q (qk4 (f:=(·.1)) (Vm e)) h
def T4[?d4][?u3](hp:p∈ms):lookI ms p.1=?c p.2:=by
 induction ms with
 | nil=>cases hp
 | cons q ms ih =>
   rw[Dm];ext mZ;rcases ?fI hp with rfl | hp
   . rw[?r]
   . have:¬q.1=p.1:=λz=>h.1 (by rw[z];exact qk4 (f:=(·.1)) hp);rw[?h ?aG];exact ih h.2 hp
def Gf{ms:Ms}{k:Int}(h:k ∉ ?a2 (·.1)):?b8=0:=by unfold Br;rw[MM h];rfl
def G6(p:?bC)(ms:Ms)(k:Int):Br ?o6 k=if ?eR then p.2 else ?b8:=by
 unfold Br;rw[Dm];split<;>rfl
def qQ:∀(l1 l2:?e),l1.Nodup->(∀x∈l1,x∈l2)->l1.length<=l2.length
 | [],l2,_,_=>?cX
 | x::l1,l2,h,hs=>by
   rw[qi1]at h;have hx:=hs x ?S
   have:=qQ l1 (l2.erase x) h.2 λy hy=>by
    have ne:y≠x:=λz=>h.1 (z▸hy);exact(List.mem_erase_of_ne ne).mpr (hs y (?ZY hy))
   have e:=List.length_erase_of_mem hx;have:0<l2.length:=List.length_pos_of_mem hx;rw[qe4];omega
def UT[?d4](k:Int):nd (?e5):=by
 unfold nd Ht at *;ext WN
def UQ[?tZ](k:Int):nz (?e5):=λp hp=>h p (?q0 hp).1
def Xx{ms:Ms}{k:Int}:?DE↔k∈?a2 (·.1):=by
 rw[ql9,qc8];constructor
 . ext WQ
 . ext WQ
def QI[?d4](k v:Int):nd ?pX:=by
 unfold nd putI at *;split
 . rw[qm1]
   have e:((λp:?bC=>p.1) ∘ λp:?bC=>?zI)=(·.1):=by
    funext p
    simp only[Function.comp];split<;>rfl
   rw[e];exact h
 . rename_i hn
   rw[Xx]at hn;rw[qb0,qq0];apply#[h,?hC,λa ha b hb e=>?_];have:b=k:=by simpa using hb
   exact hn (by rw[←this,←e];exact ha)
def KN[?u0][?u3](hp:p∈?kK):p∈ms\/p=?jW:=by
 unfold putI at hp;split at hp
 . let#[q,hq,e]:=?sB;by_cases z:q.1=k
   . rw[?a8]at e;right;rw[←e,z]
   . rw[?b2]at e;left;rw[←e];exact hq
 . ext C6
   . exact ?i h
   . exact ?o (?nW)
def vA(ms:Ms)(k v:Int):?a1U ?kK ?K3:=by
 unfold putI;split
 . rw[qa2];omega
 . rw[qa8];simp
def qR(ms:Ms)(k:Int):?a1U ?e5 ms.length:=qh4 ..
def QA[?tZ]{k v:Int}(hv:v≠0):nz ?pX:=λp hp=>by
 rcases KN hp with q | q
 . exact h p q
 . rw[q];exact hv
def qJ[?d4](k n:Int):nd ?lF:=by unfold Jf;split;exact UT h k;exact QI h k _
def qB[?tZ](k n:Int):nz ?lF:=by
 unfold Jf;split
 . exact UQ h k
 . rename_i q;exact QA h q
def CZ(ms:Ms)(k n:Int):?a1U ?uW ?K3:=by
 unfold Jf;split
 . have:=qR ms k;omega
 . exact vA ..
def kW(ms:Ms)(k n j:Int):Br ?lF j=if j=k then ?pL+n else ?pL:=by
 unfold Jf;split
 . rename_i q
   unfold Br at *;rw[IQ];by_cases e:j=k
   . subst e;ext bN
   . simp[e]
 . unfold Br at *;rw[AX];by_cases e:j=k
   . subst e;simp
   . simp[e]
def CK:∀(ns ms:Ms),?eB->nz ms->nd ns->nd ?e8/\nz ?e8/\?F4/\∀j,Br ?e8 j=?pL+Br ns j
 | [],ms,h1,h2,_=>#[h1,h2,?HC,λj=>by simp[plusI,Br,lookI]]
 | p::ns,ms,h1,h2,h3=>by
   unfold nd at h3;rw[qd3,qi1]at h3;let#[r1,r2,r3,r4]:=CK ns (Jf ms p.1 p.2) (qJ h1 _ _) (qB h2 _ _) h3.2;apply#[r1,r2,?_,λj=>?_]
   . have:=?TO;ext WJ
   . show Br (?UT) j=_;rw[r4,kW,G6];by_cases e:j=p.1
     . have:=Gf h3.1;subst e;simp[this]
     . have e':¬p.1=j:=λz=>e ?dO;simp[e,e']
def Ar7[?d4]:nd (Ss ms):=by
 unfold nd Ss at *;ext WN
abbrev inK(ms:Ms):Prop:=∀p∈ms,?qT/\p.1<40
def iL[?d4](n:Int):nd (?a0G n):=by
 unfold nd at *;rw[qm1];exact h
def gA:∀(ns ms:Ms),?F4
 | [],ms=>?HC
 | p::ns,ms=>by
   have h1:=gA ns (Jf ms p.1 p.2);have h2:=?TO;ext WJ
def mE{ms ns:Ms}{i:Nat}[?n8](h:ns[i]?=?dY):?bW ms (ns.take ?L)=Jf (?bW ms (ns.take i)) q.1 q.2:=by
 unfold plusI;rw[qp9,h,qm7];rfl
def nQ{ms:Ms}{i:Nat}[?n8](hq:ms[i]?=?dY):Ss (ms.take ?L)=if q.2=0 then Ss (ms.take i) else Ss (ms.take i)++[q]:=by
 unfold Ss;rw[qp9,hq,qg3];by_cases e:q.2=0<;>simp[e]
def VA(ms:Ms):(Ss ms).length<=ms.length:=qh4 ..
section
variable{H H1:Hp}{a:Addr}[?u0]
def DJ(rd:?UO):DGet H a (?bX) ((?w6).map ?a7):=?i #[?cS,?i k,rd,rfl,(sA ms k).symm]
def vM(h:H a=?sK)(hl:?HA):j7 H a (?bX) (?rW) (upd H a (?a2Q ?pX)):=by
 rw[←Sw];exact ?i #[?cS,?i k,h,rfl,by unfold cK;rw[qa2];exact ?eK hl,rfl]
def Sx{i:Nat}{kk:Key}{x:V}(h:?a1W (?cS) (kk,x)):∃p:?bC,ms[i]?=?hP/\kk=?i p.1/\x=?f p.2:=by
 unfold cK at h;rw[qb4]at h;cases e:ms[i]? with
 | none=>rw[e]at h;cases h
 | some p =>
   rw[e]at h;have:=qb9 h;simp only[Prod.mk.injEq]at this;exact#[p,rfl,this.1.symm,this.2.symm]
def Ga:?ZD ?cS ms.length:=by unfold cK;rw[qa2]
def YO{o:HO}(h:H a=?dB):upd H a o=H:=by
 funext b
 by_cases e:b=a
 . rw[e,Ab,h]
 . rw[Ak e]
def Z7{x:HO}{D:Addr}(h:(upd H a x) D=none):?c7/\D≠a:=by
 have n:D≠a:=λz=>by rw[z,Ab]at h;cases h
 rw[Ak n]at h;exact#[h,n]
def kG{o:HO}{b:Addr}(s:?oU)(h:Rd H b o):Rd H1 b o:=by
 rcases h with h|⟨q,h⟩
 . exact ?i (?a1O h)
 . exact ?o #[q,?a1O h]
universe e9
def put_new[?u0](h:k ∉ ?a2 (·.1)):?kK=ms++[?jW]:=by
 unfold putI;rw[?h (λz=>h (Xx.mp z))]
abbrev uS(H:Hp)(ms:Ms)(Q:V->?a9):Prop:=∀[?n6],?c7->?W->?cK=?sK->?cQ
section
variable[?F]
abbrev Qi[?d6]:Sp:=λvs H Q _=>Xy λ ?cU ?dW (k n:Int)=>Bw (?ZX ?e2) ?qW (?HA) (Q .non (upd H a (?a2Q ?lF)))
abbrev Xk[?d6]:Sp:=λvs H Q _=>Xy λ ?cR ?MB=>G9 ?fV (?UO) (?a2P b ns) ?fN (ns.length<=1000) (uS H ?e8 Q)
abbrev O8[?d6]:Sp:=λvs H Q _=>Ut λ ?k ?cU ?dW=>Er (vs=[?e2,?K]) ?qW ?fN ((∀p∈ms,?fZ n p.2)) (uS H ?o4 Q)
abbrev Yc[?d6]:Sp:=λvs H Q _=>Xy λ ?cR ?MB=>Oy ?fV ?qW (Rd H b (?a2Q ns)) (a≠b) ?fN ((∀p∈ms,?fZ p.2 (?RD))) (∀H',?W->Q (?f (wI ms ns)) H')
universe e9
universe Hb
namespace Hb
abbrev S4(t f:Int):Int:=if f=t then t+1 else if f=t+1 then t else f
abbrev X5(ys:LLInt)(t:Nat):LLInt:=?qP++[?q2,?wY]++?PV
abbrev K9(ys:LLInt)(t:Nat):LLInt:=(?oJ).map ?DY
abbrev Wy(t k:Nat):Nat:=if k=t then t+1 else if k=t+1 then t else k
def Xi(t k:Nat):S4 ?xC ?aA=(?lK:Nat):=by
 unfold S4 Wy;by_cases a:k=t
 . rw[?Z,?q a];omega
 . by_cases b:k=t+1
   . rw[?l,?Z,?h a,?q b]
   . rw[?l,?l,?h a,?h b]
def TU(t k:Nat):Wy t (?lK)=k:=by
 unfold Wy
 repeat' split
 all_goals omega
def LV[?gK](k:Nat):(?oJ)[k]?=?OE:=by
 unfold X5 Wy;have e1:?q2=ys[t+1]:=by rw[qa0,?g5];rfl
 have e0:?wY=ys[t]:=?L7
 rw[e1,e0,qh8];have lt:?ZD ?qP t:=by rw[qe2];omega
 by_cases a:k<t
 . rw[?pM,qi7,?q a,?l,?l]
 . rw[?fC,lt];by_cases b:k=t
   . subst b;rw[?r,qh2];exact(?g5).symm
   . by_cases c:k=t+1
     . subst c;rw[?h b,?r,show t+1-t=1 by omega];exact(?gZ).symm
     . rw[?h b,?h c];rw[qb5 ?fX,qs6]
       congr 1
       ext bN
def U0[?gK](k:Nat):?iI[k]?=(?OE).map ?DY:=by
 unfold K9;rw[qb4,LV h]
def eK[?j4]{t:Nat}(hs:Ca ys)(h:?pW)(hm:?JB):Ca ?iI:=by
 intro k p' EC;rw[U0 h]at EC;cases e:ys[Wy t k]? with
 | none=>rw[e]at EC;cases EC
 | some p =>
   rw[e]at EC;have hp:?KC=p':=qb9 EC;subst hp;have F:=hs _ _ e
   have face:∀f∈p,∃(m:Nat) (q:?e),f=?aV/\?uU/\lev q+1=lev p/\?ON:=by
    intro f hf;let#[q,hq,hl]:=?sD;have f0:=?IP;let#[m,rfl]:=qj9 f0;rw[qd6,qi7]at hq;split at hq
    case isFalse=>cases hq
    case isTrue hlt =>
     apply#[m,q,rfl,hq,hl,?_]
     have hk:k=t->m≠t:=by
      rintro rfl z;subst z;refine hm;have:Wy m m=m+1:=by simp[Wy]
      rw[this]at e;rw[qa0,e];exact hf
     unfold Wy at hlt ⊢
     repeat' split at hlt
     all_goals repeat' split
     all_goals first | omega | (have:=hk (by assumption);omega)
   have look:∀(m:Nat) (q:?e),?uU->?ON->((?pR).take k)[(S4 ?xC ?aV).toNat]?=?c (q.map ?lP):=by
    intro m q hq hlt;rw[Xi,qd6,qi7,?q hlt,U0 h,TU,hq];rfl
   apply#[by simpa using F.cnt,?IB,?IB,λh3 i j f' g' q' r' hij hj hi hq' hr'=>?_]
   . let ?v7:=?b5 hf';let#[m,q,rfl,_]:=?T8;rw[Xi];omega
   . let ?v7:=?b5 hf';let#[m,q,rfl,hq,hl,hlt]:=?T8;apply#[_,?J9,?_];unfold lev at *;rw[qa2,qa2];exact hl
   . rw[qb4]at hj hi;cases ej:p[j]? with
     | none=>rw[ej]at hj;cases hj
     | some f =>
       cases ei:p[i]? with
       | none=>rw[ei]at hi;cases hi
       | some g =>
         rw[ej]at hj;rw[ei]at hi;cases hj;cases hi;let#[m,q,rfl,hq,_,hlt]:=?d0 f ?D1;let#[n,r,rfl,hr,_,Bf8]:=?d0 g ?TV;rw[?J9]at hq';rw[look n r hr Bf8]at hr';cases hq';cases hr'
         have below:∀(m:Nat) (q:?e),?aV∈p->?uU->(?o5 (?lK))[((m:Nat):Int).toNat]?=?dY:=by
          intro m q hm' hq;let#[q2,hq2,_]:=F.bel _ hm';rw[qd6]at hq2 ⊢;rw[qi7]at hq2 ⊢;split at hq2
          case isFalse=>cases hq2
          case isTrue z=>rw[?a8];exact hq
         have:=F.agr (by simpa using h3) i j _ _ q r hij ej ei (below m q ?D1 hq) (below n r ?TV hr);rw[qb4,qb4,this]
universe Hb
namespace Hb
open PySem L2
abbrev An8(os:?e)(t:Nat):?e:=os.take t++[os.getD ?rK 0,os.getD t 0]++os.drop (t+2)
def lV[?gK]:?ZD ?oJ ys.length:=by
 unfold X5;simp only[qa8,qe2,ql8,qe4,qr5];omega
def AK[?gK]:?ZD ?pR ys.length:=by
 unfold K9;rw[qa2,lV h]
inductive Turned[?O]:?a2B LLInt ?e
 | refl:?u7 xs xs (yP ?D)
 | step [?j4]{os:?e} (t:Nat):?xZ->?pW->?JB->?u7 xs ?iI (An8 os t)
def Turned.shape[?BT][?b7]:Ca ys:=by
 induction h with
 | refl=>exact hs
 | step t h1 h2 h3 ih=>exact eK ih h2 h3
def Lh{α:Type}{l:?aM α}{i:Nat}{d:α}:?U1∈l\/?U1=d:=by
 rw[qa0];by_cases h:?EX
 . rw[?g5];exact ?i (qf0 h)
 . rw[qg1 ?d];exact ?o rfl
def U2[?g](h:?eE):?w1:=λx hx=>by
 let#[k,hk]:=qf7 hx;have:=(h k x hk).cnt;omega
section
variable[?V]{H:Hp}
universe e9
section
variable[?F]
universe e9
universe Hb
namespace L2
open PySem PySem.Spec PyProof.Rows
open AutoSeq1 (wpAny_loadPart')
def NF(t:Addr)(vs:?vE)(n:Nat)(dd:OAddr)(sl:Ro):Meets (Builtin.«enumerate.__new__» #[[?rM,?iG],[]]) (λ_ R s=>?UK t=?c { cls:=?jP,dict:=dd,data:=?N1,slots:=sl } ∧
 R (.ok (.ret (?p ?JQ))) { s with heap:=(?oO).push ?vS }) :=
 .of_wp λprog w A R s h=>by
  let ?A8:=s;let ?mR:=h;have hsub:=sub_enumerate;have gt:Heap.IsTuple (Shared.heap ?A8) t vs:=#[_,q1,rfl,n,rfl]
  wp_walk using wpAny_loadPart' q1
  apply wpAny_stack_any λst=>qc9 ?_;split
  . rename_i c _ _ _ _ _
    cases (c==Value.type ?eN)
    . ext BU
      exact ?AB
    . ext BU
      exact ?AB
  . ext BU
    exact ?AB
section
variable[?C4]{E:?pE}{s:Shared}
def IY[?C0]{x old:Value}{Q:?pE}[?BL](gx:vs[n]?=?c x)(ne:e≠j)
 (k:∀h',?UX->?NV->?YM n->?O5 →
   ?a0H ?p ?dN) :
 ?Z7 (Builtin.«enumerate.__next__» #[[?p e],[]]) (λfin s'=>∃r,fin=.done (.ret r)/\Q r s'):=by
 let ?A8:=s;ext W3;apply qa7 (Jn gj gt gx λk1 gj1 w1=>?_)
 replace w1:?iJ j hp k1:=w1
 have ge1:?a0F k1 n:=(w1.2 e ne).trans ge;show ?YT 3 ?AG;apply qa7 (qi9 ge1 rfl (x:=?xV n) rfl ?_);show ?YT 4 ?AG;apply qa7 (qi9 ge1 rfl (x:=?dG) rfl ?_);show ?bZ _ _ (mkInt n>>=_) _ _ ?AG;apply qa7 (wpAny_mkInt ?_);show ?bZ _ _ (?II ?dH 3 (?xV ?cV)>>=_) _ _ #[k1,g,d,tk+1,os];apply qa7 (qj2 ge1 ?bD λk2 ge2 w2=>?_)
 replace w2:?iJ e k1 k2:=w2
 replace ge2:?a0F k2 ?cV:=ge2
 show ?Y7 (?II ?dH 4 ?dG>>=_) k2;apply qa7 (qj2 ge2 ?bD λk3 ge3 w3=>?_)
 replace w3:?iJ e k2 k3:=w3
 replace ge3:?a0F k3 ?cV:=ge3
 show ?Y7 (newTuple [?O9,x]>>=_) k3;apply qa7 (wpAny_newTuple ?_);have ge4:?a0F (?DF) ?cV:=qa6 _ ge3;generalize mU:?DF=k4 at ge4;have sz:k3.objs.size=hp.objs.size:=by rw[w3.1,w2.1,w1.1]
 have le:e<hp.objs.size:=qc1 ge;have gt4:k4.get? ?pI=?c ?NJ:=by rw[←mU,←sz];exact ?EH
 have sz4:k4.objs.size=hp.objs.size+1:=by rw[←mU,qi4,sz]
 have kp4:∀b o,b≠e->b≠j->hp.get? b=?dB->k4.get? b=?dB:=λb o n1 n2 q=>by
  rw[←mU];exact qa6 _ (?PW b o n1 (?MQ b o n1 (w1.extBut b o n2 q)))
 have gj4:k4.IsTupleIter j t ?C:=by
  rw[←mU];let#[o,q,r]:=(gj1.extBut ?MQ ?lR).extBut ?PW ?lR;exact#[o,qa6 _ q,r]
 show ?Y7 (Builtin.SmallTypes.ownedTupleIsFree ?dH>>=_) k4;rw[sz];clear mU ge3 w3 ge2 w2 ge1 w1 gj1 sz k3 k2 k1;apply qa7 ?_;unfold Builtin.SmallTypes.ownedTupleIsFree;apply qa7 (qi9 ge4 rfl (x:=?dG) rfl (qc9 ?_));simp only[if_true];apply qa7 (qx5 ?_);apply qa7 (qi9 ge4 rfl (x:=old) rfl ?_);apply qa7 (qj2 ge4 ?bD λk5 ge5 w5=>?_)
 replace w5:?iJ e k4 k5:=w5
 replace ge5:?d1 k5 e j ?cV x:=ge5
 show ?Y7 (Builtin.SmallTypes.ownedTupleHandOut ?dH (?p ?pI)>>=_) k5;apply qa7 ?_;unfold Builtin.SmallTypes.ownedTupleHandOut;apply qa7 (qj2 ge5 ?bD λk6 ge6 w6=>?_)
 replace w6:?iJ e k5 k6:=w6
 replace ge6:?zR k6 e j ?cV x ?pI:=ge6
 apply qj2 ge6 ?bD λk7 ge7 w7=>?_
 replace w7:?iJ e k6 k7:=w7
 replace ge7:?zR k7 e j ?cV x ?pI:=ge7
 apply qa7 (wpAny_letGo (qc9 #[_,rfl,k k7 ge7 ?_ ?_ ?_ ?_]))
 . exact((gj4.extBut ?uT ?lR).extBut ?uA ?lR).extBut ?BG ?lR
 . exact ?BG _ _ (qn3 le) (?uA _ _ (qn3 le) (?uT _ _ (qn3 le) gt4))
 . rw[w7.1,w6.1,w5.1,sz4]
 . exact λb o n1 n2 q=>?BG b o n1 (?uA b o n1 (?uT b o n1 (kp4 b o n1 n2 q)))
def W5[?C0]{x old:Value}[?XF][?BL](gx:vs[n]?=?c x)(ne:e≠j)
 (k:∀h',?UX->?NV->?YM n->?O5 →
   ?a0H ?c (?p ?dN)):?JN:=by
 ext WO
 unfold pyNext;exact qa7 (?XW (IY ge gj gt gx ne λh' a b c d q=>qc9 (k h' a b c d q)))
def Zg[?C0]{old:Value}[?XF](hn:A.handled=none)[?BL](gx:vs[n]?=none)
 (k:∀h',Heap.ExtBut j ?lW h'->Q ?aU ?LW):?JN:=by
 ext WO
 unfold pyNext;apply qa7 (?XW ?_);ext W3;apply qa7 (Pt hn gj gt gx λh' x he hx=>?_);let ?LC:=hx;exact qa7 (qv9 (T:="StopIteration") (b:=true) ?LC isSubtype_stop (qc9 (k _ he)))
def JI{t:Addr}{vs:?vE}{Q:?pE}(gt:?RH)
 (k:∀h',?d1 h' (?lZ) ?dN 0 ?dG->?GC ?dN t 0->h'.objs.size=s.heap.objs.size+2->(∀b o,?AF)->Q (?p (?lZ)) ?LW) :
 ?Z7 (call (?rM) [?iG]) Q:=by
 let#[#[c,dd,dt,sl],q,qc,n,qd]:=gt
 replace qc:c=?jP:=qc
 replace qd:dt=?N1:=qd
 subst qc qd;apply callType_new F.called_enumerate ?Y (F.typeCall_enumerate_1 _) (F.newCall_enumerate_1 _) (λobj=>F.args_object_init_2 obj _) F.entry_enumerate_new (NF t vs n dd sl) #[q,?_];have z1:?JQ=?lZ:=qi4 ..;show _/\_;rw[z1]
 have ge:?d1 ((?oO).push ?vS) (?lZ) ?dN 0 ?dG:=by
  have:=qc4 (?oO) (o:=?vS) rfl;rw[z1]at this;ext c3
 exact#[?G2,k _ ge #[_,qa6 _ (?EH),rfl,rfl] (by rw[qi4,z1]) λb o x=>qa6 _ (qa6 _ x)]
universe e9
abbrev IteT[?F](a:Addr):It:=IteG (SqT K) a
def HM[?n2][?V][?f3]{x1:Nat}{tpos:Pos}(a e it:Addr)(hne:e≠it):Xe P w K (.Tuple es x1 tpos) (?kU) [e,it] e (λi h=>?a0T ?P i) where
 mem:=?jO
 obj:=λi h ?nD=>a8 h1 (tup_cell h2)
 keep:=λi h h' ?nD k=>#[#[old,k e ?S _ h1],h2.at λo z=>k it (?ZY ?S) o z]
 item:=by
  ext W4;let#[xs,x,hq,hx]:=hg;let ?DM:=?DW;let#[u,hu,ru]:=rv.get hx;exact W5 h1 h2 (show ?AV a ?uZ from p) (x:=u) (by simpa using hu) hne λh' hout Ab8 htup hsz hk=>bM (i:=i) (Y:=(IteT X.K a).yld i H) (T:=λh=>?a0T ?DS ?L) hne I hf h1 (tup_cell h2) ru hout htup hk (λh3 Rf he=>#[he,Ab8.at λo z=>(Rf.2 it hne.symm).trans z]) λhn=>#[_,x,hn,rfl,rfl,λys hy=>by rw[I.tuple_inj hy hq];exact hx]
 done:=by
  ext W4;let#[xs,hq,hx]:=hg;let ?DM:=?DW;let#[f0,f1,f2,f3,f4,f5]:=hf it ?bD;have hl:=rv.length;exact Zg (I.ok.hd hc) h1 h2 (show ?AV a ?uZ from p) ?fX λh' eb=>#[rfl,I.turned (t':=s.toks) (λb o hb z=>eb b o hb z) f0 f1 f3 f4 f5]
 self:=λ_ _ _ _ _ st h=>by
  let ?nD:=st;exact qu7 h1 h
inductive LM[?F](R:It->?a9)(vs:?x)(H1:Hp):Prop
 | mk:∀a,?sS->((∃xs,?FC))->(R (?kU) H1)->?OB
abbrev Ab0[?F](ta:TA):TI:=λσ H R=>ta σ H λvs H1=>?OB
def V5:bootBuiltins ?eN=?c (?rM):=?n
def pO{X:Cx}[?V][?f3]{x1:Nat}{tpos:Pos}{a:Expr}{ta:TA}{p pos:Pos}(hg:Gl X ?eN)(hm:X.mg ?eN=none)(ha:PA X [a] ta)(hK:X.K=K:=by rfl)(hs:?BB [a] ?h1=[(?nK,eval a ?h1)]:=by rfl):PI X (.Tuple es x1 tpos) (.Call (.Name ?eN p) [a] [] pos) (Ab0 K ta):=by
 subst hK;intro Ae s σ H R I h;apply Call_ (L8 I hg hm V5 (qh1 (D9 (ha pos Ae s σ H _ I h) λus s1 _z=>?_) hs rfl));let#[vs,H1,I1,r1,q1]:=_z;let#[l,e,#[xs,hq],q]:=q1;subst e;cases r1 with
 | cons r rr =>
   cases rr;cases r;let#[its,rv,pl,hz]:=I1.tuple hq;apply JI (show s1.heap.IsTuple l ?uZ from pl) λh' hen hit hsz hk=>?_;apply qu7 hen #[?U4,[?U4,s1.heap.objs.size],_,_,H1,rfl,I1.kept (t':=s1.toks) hk,HM l _ _ (qu4 _),#[#[_,hen],hit],I1.fp2,q]
section
variable{g:TG}{tc:TT}{te:TE}{D:Addr}{Q:?a9}{τ:St}{H:Hp}
def nC[?V][?CN]{g:TG}{tb:TS}{D:Ends}{σ:St}{H:Hp}(Pv:?kG)(h0:Pv 0 σ H)(hl:∀i σ H,i<=xs.length->?FQ->?S0)
 (hs:∀i x σ H p,?a1W xs x->?FQ->H p=none->g (?lV) σ (upd H p (?aB [?lB,x])) λσ2 H2=>tb { D with nx:=Pv ?L,ct:=Pv ?L,bk:=D.nx } σ2 H2) (hd:∀σ H,Pv ?D σ H->?KF) :
 ∃W:Nat->?kG,(∃m,W 0 m σ H)/\∀i m σ H,W i m σ H →
   ((?kU).stop i H/\?KF)\/((?kU).go i H/\∃N:?t9,(∀σ' H',N σ' H'->∃m',m'<m/\W ?L m' σ' H')/\∀x H',(?kU).yld i H x H'->g x σ H' λσ2 H2=>tb { D with nx:=N,ct:=N,bk:=D.nx } σ2 H2):=BJ Pv h0 hl hs hd
universe e9
universe L2
namespace Hb
abbrev L5[?c2](f:Int):?s
 | 0=>0
 | i+1=>if ?gO=f then ?P5+1-?iP else ?P5
abbrev Jc[?c2](f:Int):Int:=L5 fs f ?iK
abbrev Oq(x e:Int):Int:=if x=e then 1 else 0
def uP(e:Int):Jc [] e=0:=rfl
def fS(x y e:Int):?yZ=?UD:=by
 show(if y=e then(if x=e then ?bJ+1-2*(?iW%2) else 0)+1-2*(?kJ%2) else(if x=e then ?bJ+1-2*(?iW%2) else 0))=_;unfold Oq;split<;>split<;>simp_all
def kK(x y z e:Int):Jc [x,y,z] e=?UD+Oq z e:=by
 show(if z=e then ?yZ+1-2*(((2:Nat):Int)%2) else ?yZ)=_;rw[fS];unfold Oq;split<;>simp_all<;>omega
def vB{l:?e}(h:l.length=2):∃a b,l=[a,b]:=by
 match l,h with
 | [a,b],_=>exact ?G7
def qS{l:?e}(h:l.length=3):∃a b c,l=[a,b,c]:=by
 match l,h with
 | [a,b,c],_=>exact ?NW
def Bc7{l:?e}(h:l.length=4):∃a b c d,l=?M1:=by
 match l,h with
 | ?M1,_=>exact ?M3
abbrev sg(i:Nat):Int:=1-?iP
def Am2[?g][?b7]{k:Nat}{q:?e}(hq:xs[k]?=?dY)(e:Int):Aj (λi=>?g4*Jc (?J (q.getD i 0).toNat []) e) q.length=0:=by
 have F:=hs k q hq
 have face:∀f∈q,∃p,?AP=p/\(?oT k)[f.toNat]?=?hP/\lev p+1=lev q/\(p.length=0\/p.length=2\/p.length=3\/p.length=4):=by
  intro f hf;let ?TR:=?sD
  have hp2:?HD=?hP:=by
   rw[qi7]at hp;split at hp
   . exact hp
   . cases hp
  exact#[p,by rw[qa0,hp2];rfl,hp,hl,(hs _ _ hp2).cnt]
 rcases F.cnt with h | h | h | h
 . rw[h];rfl
 . let ?G7:=vB h;let#[A,ha,_,la,ca]:=?D0;let#[B,hb,_,lb,cb]:=?K4;have za:A=[]:=by ext C7;refine List.eq_nil_of_length_eq_zero;omega
   have zb:B=[]:=by ext C8;refine List.eq_nil_of_length_eq_zero;omega
   subst za zb;show ?XU 1=0;rw[ha,hb,uP];simp
 . let ?NW:=qS h;ext VW;let#[a0,a1,rfl]:=vB (l:=A) (by ext C7;omega);let#[b0,b1,rfl]:=vB (l:=B) (by ext C8;omega);let#[c0,c1,rfl]:=?Z3 vB;ext VP;simp at e1 e2 e3;subst e1 e2 e3;show ?a2H e=0;rw[ha,hb,hc,fS,fS,fS];simp[sg];omega
 . let ?M3:=Bc7 h;ext VW;let#[D,hd,gd,ld,cd]:=?d0 d ?bD;let#[a0,a1,a2,rfl]:=qS (l:=A) (by ext C7;omega);let#[b0,b1,b2,rfl]:=qS (l:=B) (by ext C8;omega);let#[c0,c1,c2,rfl]:=?Z3 qS;let#[d0,d1,d2,rfl]:=qS (l:=D) (by unfold lev at ld;simp at ld;omega);ext VP;have e4:=G 0 3 d a _ _ ?Y rfl rfl gd ga;have e5:=G 1 3 d b _ _ ?Y rfl rfl gd gb;have e6:=G 2 3 d c _ _ ?Y rfl rfl gd gc;simp at e1 e2 e3 e4 e5 e6;subst e1 e2 e3 e4 e5 e6;show ?a2H e+sg 3*Jc (?a2N d.toNat) e=0;rw[ha,hb,hc,hd,kK,kK,kK,kK];simp[sg];omega
universe Hb
namespace Hb
open PySem L2
abbrev kD(n:Int)(i:Nat):Int:=if ?rN=0 then n else -n
abbrev Ho(ms:Ms)[?c2](n:Int):Nat->Ms
 | 0=>ms
 | i+1=>?zX
abbrev jM(ms:Ms)[?c2](n:Int):Ms:=Ho ms fs n ?iK
def mZ(ms:Ms)[?c2](n k:Int):∀i,Br ?fR k=?b8+?p3*n
 | 0=>by simp[Ho,L5]
 | i+1=>by
   show Br (?zX) k=_;rw[kW,mZ ms fs n k i];show _=?b8+(if ?gO=k then ?F6 else ?p3)*n;by_cases h:k=?gO
   . ext C9
     have e:?hB=(1-?iP)*n:=by
      unfold kD;have:?KQ:=O9m
      rcases this with z | z
      . rw[?a8,z];simp
      . rw[?l,z];omega
     rw[e,show ?F6=?p3+(1-?iP) by omega,qr9];omega
   . rw[?cF,?h (?UY)]
def Zh[?d4][?c2](n:Int):∀i,nd ?fR
 | 0=>h
 | i+1=>qJ (Zh h fs n i) _ _
def FT[?tZ][?c2](n:Int):∀i,nz ?fR
 | 0=>h
 | i+1=>qB (FT h fs n i) _ _
def Vo(ms:Ms)[?c2](n:Int):∀i,(?rU).length<=ms.length+i
 | 0=>?bM
 | i+1=>by
   have h1:=Vo ms fs n i;have h2:=CZ ?fR ?i7 (?hB);show(Jf _ _ _).length<=_;omega
abbrev Lg[?O](k p n:Int):Bool:=Dq xs (?rY) k&&?j (¬n=0)
abbrev chainB[?N](ms:Ms):Bool:=ms.all λp=>Lg xs k p.1 p.2
abbrev Nh[?O](ms:Ms):Nat->Ms
 | 0=>[]
 | i+1=>jM ?iH (?xN) (?nQ).2
abbrev Bh[?O](ms:Ms):Ms:=Nh xs ms ?RJ
def aZ[?g][?n1](ms:Ms):∀i,(?qJ).length<=4*i
 | 0=>?bM
 | i+1=>by
   have h1:=aZ h4 ms i;show(jM _ _ _).length<=_;unfold jM;have h2:=Vo ?iH (?xN) (?nQ).2 ?P7
   have h3:?P7<=4:=by
    rcases Lh (l:=xs) (i:=?GA) (d:=[]) with z | z
    . exact h4 _ z
    . rw[z];ext cH
   omega
def fC[?g]{p l:Int}(h:Dq xs (?rY) l=true):?J8:=by
 have h':(?j (0<=p)&&?j (?qF)&&?j (Bs ?sH=l))=true:=h;rw[qc3,qc3]at h';exact#[qd5 h'.1.1,qd5 h'.1.2]
abbrev Rj(b:Addr)(H H1:Hp):Prop:=?a1C b
section
variable[?V]{H H1:Hp}{b:Addr}{m:?aM (Key × V)}
def SqL.x[?tP][?CN](h:?a09 a xs):SqL K H1 a xs:=by
 rcases h with(h|⟨o,h⟩) | h
 . ext WD
 . ext W8
 . exact ?iL
def SqT.x[?tP][?CN](h:?S0):?FC:=by
 rcases h with(h|⟨o,h⟩) | h
 . ext WD
 . ext W8
 . exact ?iL
mutual
def Rep.x[?tP]{v:V}{d:L2.D}(h:?Z0 v d):Rep K H1 v d:=by
 cases d with
 | non=>exact h
 | bl b=>exact h
 | int i=>exact h
 | str x=>exact h
 | tup ds =>
   let ?FT:=h;exact#[a,vs,e,SqT.x s hb q,?IY]
 | lst ds =>
   let ?FT:=h;exact#[a,vs,e,SqL.x s hb q,?IY]
def Reps.x[?tP][?b6]{ds:?aM L2.D}(h:?g9 K H vs ds):?g9 K H1 vs ds:=by
 cases ds with
 | nil=>exact h
 | cons d r =>
   let#[v,q,e,h1,h2]:=h;exact#[v,q,e,Rep.x s hb h1,Reps.x s hb h2]
end
universe e9
section
variable[?F]
abbrev Yf:Sp:=λvs H Q _=>eE λ ?cU ?U (k p n:Int)=>Dw (vs=[?K,?bX,?rY,?e2]) ?aK (Q (.bl (Lg xs k p n)) H)
abbrev Lb:Sp:=λvs H Q _=>eE λ ?cR ?U ?aA ?dW=>Er (?ZX ?dA) ?aK ?sM ?fN (?XZ (?fE xs k ms))
abbrev Fz:Sp:=λvs H Q _=>eE λ ?cR ?U (n:Nat) ?dW=>G9 (vs=[?K,?dA,?f ?k]) ?aK ?sM ?fN (n<=100) (?XZ ((?l1).any λ(k:Nat)=>?A2))
abbrev Tj:Sp:=λvs H Q _=>eE λ ?cU ?jS ?dW (fs:?e) ?k=>Er (vs=[?K,v,?e2]) ?qW (TI K H v fs) (ms.length+fs.length<=100000) (∀H',Rj a H H'->H' a=?XQ (jM ms fs n)->?vV)
abbrev Mp:Sp:=?a2Y (uS H ?gR Q)
universe e9
universe Hb
namespace Hb
open PySem L2
abbrev wF[?aC](ms:Ms):Int:=(?a2 λp=>?vX).sum
def BX[?aC]:?a07 []=0:=rfl
def Iq[?aC](p:?bC)(ms:Ms):?a07 ?o6=?vX+?bV:=by
 unfold wF;rw[qd3,List.sum_cons]
def Na(k:Int):Br [] k=0:=rfl
def JT[?aC](k:Int):∀{ms:Ms},?eB->?a07 (?e5)=?bV-?b8*φ k
 | [],_=>by show ?bJ=0-Br [] k*φ k;rw[Na];simp
 | ?hR,h=>by
   ext mZ;have ih:=JT φ k (ms:=ms) h.2;rw[G6,Iq];by_cases e:?eR
   . rw[?dK];have hd:?QZ=?e5:=by unfold Ht;rw[qu0 (?k0)]
     have hg:?b8=0:=Gf (by rw[←e];exact h.1);rw[hd,ih,hg,←e,qg2];omega
   . rw[?dR];have hd:?QZ=p::?e5:=by unfold Ht;rw[qt9 (?k0)]
     rw[hd,Iq,ih];omega
def aJ[?aC](as bs:Ms):?a07 ?E7=?a07 as+?a07 bs:=by
 unfold wF;rw[qb0,List.sum_append]
def OT[?aC](k v:Int):∀{ms:Ms},?eB->k∈?a2 (·.1)->?a07 (?a2 λp=>?zI)=?bV+(v-?b8)*φ k
 | [],_,h=>by simp at h
 | ?hR,h,hk=>by
   ext mZ;rw[qd3,Iq,Iq,G6];by_cases e:?eR
   . rw[?dK,?dK]
     have same:(?a2 λp=>?zI)=ms:=by
      conv=>rhs;rw[←?EU ms]
      refine qw4;intro q hq;have:¬q.1=k:=λz=>h.1 (by rw[e,←z];exact qk4 (f:=(·.1)) hq);rw[?h ?aG];rfl
     rw[same,e,Int.sub_mul];show v*φ k+?bV=_;omega
   . rw[?dR,?dR]
     have hk2:k∈?a2 (·.1):=by
      rw[qd3,qd4]at hk;rcases hk with z | z
      . exact ?Q ?dO e
      . exact z
     rw[OT φ k v h.2 hk2];omega
def OS[?aC][?d4](k v:Int):?a07 ?pX=?bV+(v-?b8)*φ k:=by
 by_cases hk:k∈?a2 (·.1)
 . unfold putI;rw[?q (Xx.mpr hk),OT φ k v h hk]
 . rw[put_new hk,aJ,Gf hk,Iq,BX];simp
def yO[?aC][?d4](k n:Int):?a07 ?lF=?bV+n*φ k:=by
 unfold Jf;split
 . rename_i e
   rw[JT φ k h];have:?b8=-n:=O9m
   rw[this,qo7];omega
 . rw[OS φ h,show ?h3-?b8=n by omega]
def EG[?aC][?d4][?c2](n:Int):∀i,?a07 ?fR=?bV+n*Aj (λj=>sg j*φ (fs.getD j 0)) i
 | 0=>by show ?bV=?bV+n*0;simp
 | i+1=>by
   show ?a07 (?zX)=?bV+n*(Aj _ i+?AQ);rw[yO φ (Zh h fs n i),EG φ h fs n i,qw7]
   have e:?hB=n*?g4:=by
    unfold kD sg;have:?KQ:=O9m
    rcases this with z | z
    . rw[?a8,z];simp
    . rw[?l,z];omega
   rw[e,qe0];omega
def Ky[?O](ms:Ms):∀i,nd ?iH
 | 0=>List.nodup_nil
 | i+1=>Zh (Ky xs ms i) _ _ _
def Tx[?O](ms:Ms):∀i,nz ?iH
 | 0=>λp hp=>by cases hp
 | i+1=>FT (Tx xs ms i) _ _ _
abbrev face[?O][?aC](p:Int):Int:=Aj (λj=>sg j*φ ((?wE).getD j 0)) ?sH
def eG[?aC][?O](ms:Ms):∀i,?A0->?a07 ?iH=wF (?d0 xs φ) (ms.take i)
 | 0,_=>rfl
 | i+1,h=>by
   show ?a07 (jM ?iH _ _)=_;unfold jM;rw[EG φ (Ky xs ms i),eG φ xs ms i ?d,qp9,?oB,aJ];ext BM
   rw[e];show _+_=_+wF _ [?qQ];rw[Iq,BX];unfold face;omega
def jU[?aC][?O](ms:Ms):?a07 ?gR=wF (?d0 xs φ) ms:=by
 unfold Bh;rw[eG φ xs ms _ ?I,qe7]
abbrev dlI(e k:Int):Int:=if k=e then 1 else 0
def wL(e:Int):∀{ms:Ms},?eB->wF ?xJ ms=Br ms e
 | [],_=>rfl
 | ?hR,h=>by
   ext mZ;rw[Iq,G6,wL e h.2];unfold dlI;by_cases z:p.1=e
   . rw[?a8,?a8,Gf (by rw[←z];exact h.1)];omega
   . ext tV;omega
def vL[?O](e p:Int):?d0 xs ?xJ p=?jT:=by
 have:∀[?c2] (i:Nat),Aj (λj=>sg j*dlI e (fs.getD j 0)) i=?kF:=by
  intro fs i
  induction i with
  | zero=>rfl
  | succ i ih =>
    show Aj _ i+?g4*dlI e ?i7=?uP
    rw[ih];unfold dlI sg;ext f6
 exact ?aG _ _
def P6[?g]{ms:Ms}(e:Int):?HX=wF (λp=>?jT) ms:=by
 have h:=wL e (Ky xs ms ?RJ);change wF ?xJ ?gR=?HX at h;rw[←h];rw[jU];unfold wF
 congr 1
 refine qw4;intro p _;rw[vL]
def JS{φ:?R}:∀{ms:Ms},(∀p∈ms,?nH=0)->?bV=0
 | [],_=>rfl
 | ?hR,h=>by
   rw[Iq,h p ?S,JS (?a2D h)];simp
def NX[?g][?b7]{ms:Ms}(hin:∀p∈ms,?qT/\?zU):?LS=[]:=by
 have z:∀e,Br (?LS) e=0:=by
  intro e;rw[P6,jU];apply JS ?aR;let#[h0,h1]:=hin p hp
  have hq:xs[?iX]?=?c (?mS):=by
   ext f1;rfl
  unfold face;exact Am2 hs hq e
 have hn:=Ky xs (Bh xs ms) (Bh xs ms).length;have hz:=Tx xs (Bh xs ms) (Bh xs ms).length;change nd (Bh xs (Bh xs ms)) at hn;change nz (Bh xs (Bh xs ms)) at hz;cases e:Bh xs (Bh xs ms) with
 | nil=>rfl
 | cons p r =>
   rw[e]at hn hz;have h1:=T4 hn (qb1 (a:=p) (l:=r));have h2:=z p.1;rw[e]at h2;unfold Br at h2;rw[h1]at h2;exact ?Q h2 (hz p ?S)
abbrev As5(n:Nat)(k:Int):Bool:=?j (?k=k+1) || (?j (k=0)&&?LU)
abbrev spN[?N]:?IN
 | 0=>[]
 | i+1=>if As5 ?xU k=true then ?QP++[?P] else ?QP
abbrev spots[?N]:?e:=spN xs k ?D
structure Part[?O](need:Nat)(p:?e):Prop where
 ok:∀f∈p,0<=f/\f<?w/\?SY=need
 agr:0<need->∀i j:Nat,i<j->?LA->?YI 0
section
variable[?F]
abbrev Wg:Sp:=?a2Y (?XZ (?j ((?HI).length=0)))
universe e9
def FY{ms:Ms}{k n:Int}[?n8](h:q∈?uW):q∈ms\/q=(k,?h3):=by
 unfold Jf at h;split at h
 . exact ?i ?N0
 . exact KN h
def Zr{ms:Ms}[?j2]{n:Int}:∀{i:Nat},i<=fs.length->∀q∈?rU,q.1∈?a2 (·.1)\/q.1∈fs
 | 0,_,q,h=>?i (qk4 (f:=(·.1)) h)
 | i+1,hi,q,h=>by
   rcases FY h with z | z
   . exact Zr O9m q z
   . subst z;apply ?o ?_;show ?gO∈fs;ext f1;exact ?fT
def Vq[?g]{ms:Ms}:∀{i:Nat},?A0->∀q∈?qJ,∃p∈ms,q.1∈?mS
 | 0,_,q,h=>?r2
 | i+1,hi,q,h=>by
   ext BM
   rcases Zr ?I q h with z | z
   . let#[r,hr,er]:=?kW;let#[p,hp,hq]:=Vq O9m r hr;exact#[p,hp,by rw[←er];exact hq]
   . exact#[?qQ,?fT,by rw[←e];exact z]
def GU{ms:Ms}[?j2]{n:Int}{M:Nat}(hm:∀p∈ms,?S2<=M):∀(i:Nat),∀q∈?rU,?SC<=M+?vZ
 | 0,q,h=>by have:=hm q h;simp;ext c3
 | i+1,q,h=>by
   have ih:=GU hm i (fs:=fs) (n:=n);have e:?L*n.natAbs=?vZ+n.natAbs:=Nat.succ_mul ..;rcases FY h with z | z
   . have:=ih q z;omega
   . subst z;have hs:(?hB).natAbs=n.natAbs:=by unfold kD;ext f6
     have hg:(?O4).natAbs<=M+?vZ:=by
      unfold Br;cases e2:lookI (Ho ms fs n i) (fs.getD i 0) with
      | none=>simp
      | some v=>exact ih _ (Vm e2)
     show(?O4+?hB).natAbs<=_;apply qa5 (qf4 _ _) ?_;rw[hs,e,←qr2];exact qq9 hg _
def gU[?g][?n1]{ms:Ms}{B:Nat}(hb:∀p∈ms,?S2<=B):∀{i:Nat},?A0->∀q∈?qJ,?SC<=i*(4*B)
 | 0,_,q,h=>?r2
 | i+1,hi,q,h=>by
   have ih:=gU h4 hb (i:=i) O9m;ext BM
   have:=GU ih _ q h;rw[e]at this;have hB:=hb ?qQ (?fT)
   have hl:?GV<=4:=by
    rcases Lh (l:=xs) (i:=?MN) (d:=[]) with z | z
    . exact h4 _ z
    . rw[z];ext cH
   have h2:?GV*ms[i].2.natAbs<=4*B:=qf5 hl hB;have e3:?L*(4*B)=i*(4*B)+4*B:=Nat.succ_mul ..;omega
def f7[?g][?b7]{k:Int}{ms:Ms}(hm:∀p∈ms,?qT/\?zU/\?YA ?mS=k):?a0E ?sI ?gR:=by
 apply qd8.mpr ?h2;have hz:q.2≠0:=Tx xs ms _ q hq;let ?VF:=?FG;let#[a,b,c]:=hm p hp
 have hx:xs[?iX]?=?c (?mS):=by
  ext f1;rfl
 have F:=hs _ _ hx;let#[r,hr,hl]:=F.bel q.1 hf;have q0:=F.low q.1 hf
 have hr2:xs[?uE]?=?c r:=by
  rw[qi7]at hr;split at hr
  . exact hr
  . cases hr
 have Cg9:?a0J ?uE:=(?bI hr2).1;have er:?DC=r:=by rw[qa0,hr2];rfl
 have hlr:Bs ?wI=k-1:=by
  unfold lev at hl;unfold Bs at c ⊢;have cr:=(hs _ _ hr2).cnt;have cp:=F.cnt;split at c<;>split<;>omega
 unfold Lg;rw[qc3];apply#[?_,by simpa using hz];show(?j (0<=q.1)&&?j (?AS)&&?j (?YA ?DC=k-1))=true;rw[er,qe1 q0,qe1 (show ?AS by omega),qe1 hlr];rfl
universe Hb
namespace L2
open PySem PySem.Spec PyProof.Rows
universe L2
namespace Hb
open PySem L2
abbrev Mx[?N](n:Nat):?e:=((?l1).filter ?HS).map λ ?nO=>?aI
abbrev Da[?N]:?e:=?EE
def Y0[?g]{k:Int}{n:Nat}(h:?lG):?GS=?SH:=by
 unfold Mx;rw[qg6,qg3,qb0,qt9 (?nW)];rfl
def CM[?g]{k:Int}{n:Nat}(h:¬?lG):?GS=?sR:=by
 unfold Mx;rw[qg6,qg3,qb0,qu0 (?nW)];simp
def Gc[?N](n:Nat):?mO<=n:=by
 unfold Mx;rw[qa2];have:=qh4 (?HS) (?l1);ext n5
section
variable[?F]
abbrev C8:Sp:=λvs H Q _=>Ut λ ?cU ?P ?U=>Bw (vs=[?K,?lB]) ?aK (?a0Q 1000) (∀[?n6],?a28 ((Da xs i).map ?a7))
universe e9
def belowD_of{i b:Int}(h0:0<=i)(h1:i<b):belowD (?lB) b=true:=by
 show(?j (0<=i)&&?j (i<b))=true;rw[qe1 h0,qe1 h1];rfl
def UX(g:?R)(sp:?e):?sT g=Ie ?hD (λi=>g (?rG i 0)):=by
 unfold Ie;refine List.ext_getElem
 . simp
 . intro i h1 h2;simp at h1;simp[h1]
def Qc[?O](p e:Int):Br (?oM) e=?jT:=by
 rw[P6];show 1*?jT+0=_;omega
def Di[?g]{k p:Int}(h:p∈?b4):0<=p/\?qF/\Bs ?sH=k:=by
 unfold Da Mx at h;let ?Q0:=?o9;have h1:=?q0 hj;have h2:=?fA h1.1;apply#[O9m,O9m,?_];rw[qd6];simpa using h1.2
def MI[?g][?n1](p e:Int):(?jT).natAbs<?v1:=by
 rw[←Qc xs p e];unfold Br;cases h:lookI (Bh xs [(p,1)]) e with
 | none=>decide
 | some v =>
   have hm:=Vm h;have:=gU (B:=1) h4 (ms:=?t6) (λq hq=>by rw[qe9]at hq;subst hq;exact qa3 1) ?I _ hm;show v.natAbs<?v1;have h2:v.natAbs<=1*(4*1):=this;omega
def Id[?N]:(?b4).Nodup:=by
 unfold Da Mx;exact List.Pairwise.map _ (λa b h=>O9m) (List.Pairwise.filter _ List.nodup_range)
def OM[?BV]:(sp.zip ns).map (·.1)=sp:=by
 rw[show(λx:?bC=>x.1)=Prod.fst from rfl,List.map_fst_zip ?d]
def oM[?BV](h:sp.Nodup):nd (sp.zip ns):=by
 unfold nd;rw[OM hl];exact h
def yK[?BV]{i:Nat}(hi:?QW):?a1W (sp.zip ns) (?rG i 0,ns.getD i 0):=by
 rw[qa1 ?fX,List.getElem_zip,qa0,qa0,?r3,?oB];rfl
def vQ{sp ns:?e}[?n8](h:q∈Ss (sp.zip ns)):q.1∈sp/\q.2∈ns:=by
 have h1:=?N0;exact#[(qr4 h1).1,(qr4 h1).2]
section
variable[?F]
abbrev Gk[?d6]:Sp:=λvs H Q _=>F1 λ(i b:Int)=>Bw (vs=[?lB,?f b]) (0<=i) (i<b) (Q .non H)
abbrev Q8:Sp:=λvs H Q _=>Xy λ ?cR (sp:?e) ?dW=>Er ?fV (?a09 a (?sT ?a7)) (Rd H b ?hA) (sp.length<=1000) (∀[?n6],?a28 ((?sT (Br ms)).map ?a7))
abbrev Om:Sp:=λvs H Q _=>Ut λ ?cU ?U ?aA=>Oy (vs=[?K,?bX]) ?aK (?a0Q 1000) ?B1 ?z0 (k<5) (UR H (?uI).length ?mF (λi j=>?HQ) Q)
universe e9
def sumN_one{sp:?e}(h:sp.Nodup){k:Int}(hk:k∈sp)(c:Int):Aj (λm=>?VG) ?hD=c:=by
 let ?DD:=qj3 hk
 have key:∀m,?I5->(?VG)=(if m=i then 1 else 0)*(λ_:Nat=>c) m:=by
  intro m hm;rw[qa0,qa1 hm,Option.getD_some];by_cases q:m=i
  . subst q;rw[?dK,?r,qd7]
  . rw[?hG,if_neg,qg2];intro z;exact q ((?NG h).mp (z.trans ?i1))
 rw[Ai key,Cu,?z2]
def jT{sp:?e}(hs:sp.Nodup)[?aC]:∀{ms:Ms},?eB->(∀p∈ms,p.1∈sp)->?bV=Aj (λm=>?a0O ms) ?hD
 | [],_,_=>by
   rw[BX,Ai (g:=?cM) (λm _=>by rw[Na,qc7]),Mo]
 | ?hR,h,hk=>by
   ext mZ;have ih:=jT hs φ (ms:=ms) h.2 ?H3;have h1:=?aH hs (hk p ?S) (?nH*p.2)
   have e:∀m,?I5->?a0O ?o6=(if ?d9=p.1 then ?nH*p.2 else 0)+?a0O ms:=by
    intro m _;rw[G6];by_cases q:?d9=p.1
    . rw[?q ?pK,?t7,q,Gf h.1,qc7,ql3]
    . rw[?h (λz=>q ?dO),?hG,qk8]
   rw[Iq,ih,?i6,Cf,h1,qf1 p.2]
abbrev Lo[?N](i j:Nat):Int:=?HQ
def Xq[?g]{k p:Int}(h0:0<=p)(h1:?qF)(h:Bs ?sH=k):p∈?b4:=by
 unfold Da Mx;apply ?wQ #[?p0,qm6.mpr #[?y6,qe1 h],O9m]
def ID[?g]{k:Int}{j:Nat}(hj:j<?mF):?sE∈?b4:=by
 rw[qa0,?rS];exact qf0 hj
def IK[?g][?b7]{k:Int}{i j:Nat}(hj:j<(?zO).length):Aj (λm=>Lo xs k i m*Lo xs ?T m j) ?mF=0:=by
 let ?pJ:=Di (ID hj);unfold Lo;rw[?yO];generalize ?JE j 0=p at q0 q1 q2;generalize (?uI).getD i 0=e;have hcb:=f7 hs (k:=k+1) (ms:=?t6) (?ZM ?pJ);rw[?yO]at hcb
 have hkey:∀r∈?oM,r.1∈?b4:=λr hr=>by
  have h1:=?gI hcb r hr;unfold Lg at h1;rw[qc3]at h1;have h2:(?j (0<=r.1)&&?j (r.1<?w)&&?j (Bs (?J r.1.toNat []).length=k))=true:=h1.1;rw[qc3,qc3]at h2;exact Xq (qd5 h2.1.1) (qd5 h2.1.2) (qd5 h2.2)
 have hbb:=NX hs (ms:=?t6) (?ZM #[q0,q1]);have hg:=P6 (xs:=xs) (ms:=?oM) e;rw[hbb,Na,jT (Id xs k) _ (show nd (?oM) from Ky ..) hkey]at hg;apply ?M2 (Ai λm _=>?_) hg.symm;rw[Qc]
def UG[?O]:Da xs (0-1)=[]:=by
 cases h:Da xs (0-1) with
 | nil=>rfl
 | cons p l =>
   exfalso
   have h1:=(Di (xs:=xs) (k:=0-1) (p:=p) (by rw[h];exact ?jO)).2.2;unfold Bs at h1;split at h1<;>omega
def HN[?g][?n1](k:Int)(i j:Nat):?PG<?v1:=MI h4 _ _
section
variable[?F]
universe e9
noncomputable abbrev C7[?N]:Nat:=?mF
def fT[?c2](e:Int):∀i:Nat,-((i / 2:Nat):Int)<=?kF/\?kF<=((?L / 2:Nat):Int)
 | 0=>#[Int.le_refl _,Int.le_refl _]
 | i+1=>by
   have ih:=fT fs e i;show _<=(?uP)/\(?uP)<=_;ext f6
def KJ[?j2](h:fs.length<=4)(e:Int):(Jc fs e).natAbs<=2:=by
 have:=fT fs e ?iK;unfold Jc;omega
def TQ[?g][?n1](k:Int)(i j:Nat):?PG<=2:=by
 apply KJ ?_ _;rw[qa0];cases e:xs[((Da xs k).getD j 0).toNat]? with
 | none=>ext cH
 | some x=>exact h4 x (qb3 e)
def PN[?g]{k l:Int}(h:k≠l):?dQ+?ZP l<=xs.length:=by
 have nd:(?RO).Nodup:=by
  rw[qq0];apply#[?uR,?uR,λa ha b hb e=>h ?_];have h1:=(Di ha).2.2;have h2:=(Di hb).2.2;rw[←h1,←h2,e]
 have sb:(?RO) ⊆ yP ?D:=λp hp=>by
  have:?J8:=by
   ext C6
   . exact ?TW
   . exact ?TW
  unfold yP;rw[qc8];exact#[?p0,?y6,O9m]
 have:=nd.length_le_of_subset sb;rw[qa8,jV]at this;ext c3
noncomputable abbrev BPart:=Int × Ms × Ms × Ms
abbrev VR[?N](v:?s):Ms:=Ss (?OT (?LP))
structure aI[?N][?BP]:Prop where
 lev:Lat.Lev (?P8) ?bB z ?ND L G
 fin:Ag3 z (?hZ) (2 ^ kB z) ?cO (kS z (?hZ)) (Lat.gT ?bB G (Lo xs ?T)) k0 f l r
 ch:Lat.ChainTo k0 k0 f
 kz:k0<=z
 kw:k0<=?hZ
 bL:?JG
 bG:?R2
 zm:z<=?dQ
abbrev JJ[?N][?BP](i:Nat):BPart :=
 (?vW,VR xs k (?AT z l.2 L i),VR xs k (?AT z l.1 G i),?vN)
abbrev Gp[?N][?BP]:?eA:=(?d8 z).map (?XV JJ k)
abbrev BV[?N][?b1]:Prop:=∃z k0 L G f l r,?XV aI k/\ps=?z8
def qP[?g][?b7](k:Int):∀c,c<?hZ->∀x,x<?P8->Lat.mulV ?bB ?ND (λa=>Lo xs ?T a c) x=0:=λc hc x _=>IK hs hc
structure Bl8[?O](n:Nat)(zs ks:?t)(Ls Gs:?PB)(fs:?cC)(lp rp:?VN)[?f2]:Prop where
 len:ls.length=n
 z0:zs 0=?g7/\Ls 0=Lat.one/\Gs 0=Lat.one
 nx:∀j,j<n->zs ?a0=?ZP (?lJ)-ks j/\Ls ?a0=(λi=>(rp j).1 (ks j+i))/\Gs ?a0=λi=>(rp j).2 (ks j+i)
 lv:∀j,j<n->?YR aI/\ls[j]?=?c (?YR Gp)
abbrev TieAt[?O](n:Nat)[?f2](z:Nat)(L G:Lat.Mat):Prop:=∃zs ks Ls Gs fs lp rp,Bl8 xs n zs ks Ls Gs fs lp rp ls/\zs n=z/\Ls n=L/\Gs n=G
def TieAt.first[?O]:?g1 xs 0 [] (?g7) ?gJ ?gJ :=
 #[λ_=>?g7,?cM,?CS,?CS,λ_ _=>0,?FA,?FA,#[rfl,?R1,?F1,?F1],rfl,rfl,rfl]
abbrev cA[?CL](n:Nat)(a:α):Nat->α:=λj=>if j=n then a else g j
def Gj[?CL](n:Nat)(a:α):cA g n a n=a:=?r
def D7[?CL]{n j:Nat}(a:α)(h:j≠n):cA g n a j=g j:=?cF
def TieAt.snoc[?g]{n:Nat}[?d3][?iZ][?d2](h:?I2)(b:?XV aI ?k) :
 ?g1 xs ?C (ls++[?XV Gp ?k]) (?ZP ?cV-k0) (?OI) ?QI:=by
 let#[zs,ks,Ls,Gs,fs,lp,rp,t,rfl,rfl,rfl]:=h;apply#[cA zs ?C (?ZP ?cV-k0),cA ks n k0,cA Ls ?C ?OI,cA Gs ?C ?QI,cA fs n f,cA lp n l,cA rp n r,#[?_,?_,?jY,?jY],Gj ..,Gj ..,Gj ..]
 . rw[qa8,t.len];rfl
 . rw[?o0,?sP,?sL];exact t.z0
 . by_cases e:j=n
   . subst e;rw[Gj,Gj,Gj,Gj,Gj];exact ?R1
   . rw[?o0,?GJ,?sP,?sL,?LZ];exact t.nx j O9m
 . by_cases e:j=n
   . subst e;rw[?o0,?sP,?sL,Gj,Gj,Gj,Gj];exact#[b,by rw[qb5 (by rw[t.len];ext dV),t.len,qh2];rfl]
   . rw[?o0,?sP,?sL,?GJ,D7 fs _ e,D7 lp _ e,?LZ];let ?lD:=t.lv j O9m;exact#[h1,by rw[qb8 (by rw[t.len];omega)];exact h2]
def TieAt.lev[?g]{n:Nat}[?d3]{z:Nat}{L G:Lat.Mat}(h:?I2):∀(j:Nat) ps,ls[j]?=?fS->BV xs ?aI ps:=λj ps e=>by
 let#[zs,ks,Ls,Gs,fs,lp,rp,t,_]:=h;have hj:=?xO;rw[t.len]at hj;let ?lD:=?KI;rw[h2]at e;cases e;exact#[_,_,_,_,_,_,_,h1,rfl]
universe Hb
namespace L2
open PySem PySem.Spec PyProof.Rows
section
variable[?X9]
universe e9
section
variable{X:Cx}[?V]
universe e9
section
variable[?X9]
universe e9
structure Fin(B k:Nat)(p:PyData):Prop where
 sh:p.showable=true
 le:p.shown.length<=B
 dp:p.depth<=k
section
variable[?C4]{E:?pE}
universe e9
section
variable[?C4]{R:Result->?wO}
universe e9
universe L2
namespace Hb
open PySem L2
def Rows.drop{H H1 H2:Hp}{D C:Addr}[?n7]{w k:Nat}[?CP](R:Rows H H1 D as w f)(hC:H1 C=none)(h2:H2=upd H1 C (?A ((?FU).map ?dP))):Rows H H2 C (?FU) w (?SS):=by
 subst h2;apply#[R.same.trans (?cA hC),R.same.free hC,Ab,λj a e=>?_];rw[qs6]at e;let#[h1,h3,h4]:=R.row ?dL a e;have ne:a≠C:=λz=>by rw[z,hC]at h4;cases h4
 exact#[h1,ne,by rw[Ak ne];exact h4]
section
variable[?F]
universe e9
abbrev Hr(H:Hp)(v:V)(p:BPart):Prop:=∃t a b c,v=?iG/\?a0X t/\?a2P a ?j6/\?a2P b ?eI/\?a2P c ?cJ/\b≠c
def Hr.same[?c4][?u4](h:?mT)[?cG]:Hr H' v p:=by
 let ?L0:=h;exact#[t,a,b,c,e,?jV,?RM,?T2,?TX,ne]
abbrev B7(H:Hp):?a2B ?x ?eA
 | [],[]=>True
 | ?lY,?kD=>?mT/\?i0
 | _,_=>False
def B7.same[?c4][?cG]:?F9
 | [],[],h=>h
 | ?lY,?kD,h=>#[h.1.same s,B7.same s h.2]
 | [],?bT,h=>h.elim
 | ?bT,[],h=>h.elim
def B7.len{H:Hp}:∀[?b6][?bF],?i0->vs.length=ps.length
 | [],[],_=>rfl
 | ?lY,?kD,h=>by rw[qe4,qe4,B7.len h.2]
 | [],?bT,h=>h.elim
 | ?bT,[],h=>h.elim
def B7.snoc{H:Hp}:∀[?b6][?bF][?u4],?i0->?mT->B7 H (vs++[v]) ?HE
 | [],[],v,p,_,h=>#[h,trivial]
 | u::vs,q::ps,v,p,h,h2=>#[h.1,B7.snoc h.2 h2]
 | [],?bT,_,_,h,_=>h.elim
 | ?bT,[],_,_,h,_=>h.elim
def B7.get{H:Hp}:∀[?b6][?bF]{i:Nat}{v:V},?i0->?jA->∃p,?wR/\?mT
 | [],[],i,v,_,e=>by simp at e
 | u::vs,q::ps,0,v,h,e=>#[q,rfl,by have:u=v:=(?k0);subst this;exact h.1]
 | u::vs,q::ps,i+1,v,h,e=>by
   have e':?jA:=?k0
   let#[p,h1,h2]:=B7.get h.2 e';exact#[p,?aN,h2]
 | [],?bT,_,_,h,_=>h.elim
 | ?bT,[],_,_,h,_=>h.elim
def Hr.put{H:Hp}{D:Addr}{vs us:?x}[?u4](h:?mT)(hD:?a2A D vs):Hr (upd H D ?QB) v p:=by
 let(?ZH nbc):=h
 have ne:∀{x:Addr}{o:HO},H x=?dB->(∀ws,o≠?A ws)->x≠D:=λ{x o} e h z=>by
  rw[z,hD]at e;cases e;exact h _ rfl
 exact#[t,a,b,c,e,by rw[?a1F h1];exact h1,by rw[?a1F h2];exact h2,by rw[?a1F h3];exact h3,by rw[?a1F h4];exact h4,nbc]
def B7.put{H:Hp}{D:Addr}{us0 us1:?x}(hD:?a2A D us0):?a1D (upd H D (?A us1))
 | [],[],h=>h
 | ?lY,?kD,h=>#[h.1.put hD,?AA hD h.2]
 | [],?bT,h=>h.elim
 | ?bT,[],h=>h.elim
def iK{k z:Nat}(h:k<=z)[?d5]:VI k f++?dD (z-k) (?a7 0)=VI z (?UJ f k):=by
 apply ?N8;by_cases hi:i<k
 . rw[qb8 (by rw[Bu];exact hi),Cm hi,Cm ?d];unfold Lat.numAt;rw[?z2]
 . rw[?a0U qb5,Bu];by_cases hz:i<z
   . rw[Cm hz,ql1,?Z];unfold Lat.numAt;rw[?oK]
   . rw[qg1 (by rw[qc5];omega),?a0U qg1]
def qN(n:Nat)[?d5]:(Ie n f).map ?a7=VI n f:=rfl
def GR{a b:Int}(ha:a.natAbs<?w2)(hb:b.natAbs<?w2):?fZ a b:=Jd ha hb (by unfold bookF;decide)
section
variable[?F]
abbrev AQ:Sp:=λvs H Q _=>eE λ ?cR ?U ?aA ?GE=>G9 (?ZX ?dA) ?aK (?a0Q 1000) (?a09 b ?OS) (ns.length=?mF) (∀[?n6],?c7->?W->?cK=?XQ (Ss (?OT ns))->?cQ)
abbrev Wd:Sp:=λvs H Q _=>A02 λ(a tp nm r1 D1 D2 b2:Addr) (vl vg:V) ?U ?aA (z k0 w:Nat) (L G:Lat.Mat) (f:?s) (l r:?kV)=>yH (vs=[?K,?bX,?p tp,vl,vg]) ?aK ?dM (w=?hZ) (?Z0 vl (dT z ?bB L)) (?Z0 vg (dT z ?bB G)) (Rm K H tp nm r1 D1 D2 b2 z w k0 f l r) (z<=40) (k0<=z) (k0<=w) ((∀i,i<k0->f i≠0)) (?gG z z ?cO l.1) (?gG z z ?cO l.2) (?JG) (?R2) (∀(D:Addr) [?nB] (H':Hp),?c7->?W->?cK=?bR->B7 H' us (?z8)->?cQ)
abbrev Fy(D:Addr)(H:Hp)(vs:?x)[?f2]:Prop:=?UU/\∀(i:Nat) v ps,?jA->?GY->∃a us,v=?K/\a≠D/\?uM
abbrev Ol(H:Hp)(vs:?x)[?f2]:Prop:=?UU/\∀(i:Nat) v ps,?jA->?GY->∃a us,v=?K/\?uM
abbrev Wh:Sp:=λvs H Q _=>F1 λ ?cU ?U=>Er ?sS ?aK ?pS ?dM (∀(D:Addr) [?nB] [?f2] (H':Hp),?c7->?W->?cK=?bR->?SA->(?xA)->Ol H' us ls->?cQ)
universe e9
def one_bits(n m:Nat):?gG n m ?cO ?gJ:=λi j _ _=>by
 have h1:1<?w2:=Nat.one_lt_two_pow (by unfold bookF;decide);unfold Lat.one;split
 . exact h1
 . exact qs5 (?aF:0<1) h1
def LA[?V]{H:Hp}{v:V}{n:Nat}(h:?Z0 v (dT n n ?RN)):?Z0 v (dT n n ?gJ):=by
 have e:(λi j:Nat=>if j=i then ?M else 0)=Lat.one:=by
  funext i j
  unfold Lat.one;by_cases h:i=j
  . ext C9
  . rw[?cF,?B6]
 rwa [e]at h
def VP[?V]{H:Hp}{C:Addr}[?f8]{h w k:Nat}[?CP](hr:∀i u,?a1W us u->i<h/\∃b,u=?dA/\?a09 b (?QC))(hl:us.length=h)(hC:?a09 C (us.drop k)):?Z0 ?B2 (dT (h-k) w ?SS):=by
 apply GL hC (by rw[ql8,hl]) ?lL;have e:us[k+i]?=?c (us[k+i]' ?m1):=?gZ;let ?LR:=hr ?b9 _ e;exact#[b,by rw[qs6,e,eb],hb]
abbrev Af4[?nB]:Prop:=∀u∈us,∃a,u=?K
def Xj[?V]{H:Hp}{D b:Addr}{xs:?x}{o:HO}(h:?a09 b xs)(ne:?nI):SqL K ?qL b xs:=by
 rcases h with(h|⟨q,h⟩) | h
 . exact ?i (?i (?uX))
 . ext X0
 . exact ?iL
def TV[?V]{H:Hp}{D b:Addr}{xs us:?x}{o:HO}(h:SqT K H b xs)[?CG]:SqT K ?qL b xs:=by
 rcases h with(h|⟨q,h⟩) | h
 . ext X1
   exact ?i (?i (?uX))
 . ext X1
   ext X0
 . exact ?iL
def dQ[?V]{H:Hp}{D t:Addr}[?f8]{h w:Nat}[?CP]{o:HO}(hr:?Z0 (?iG) (dT h w f))(ne:t≠D)(hw:0<h->0<w)[?CG](xK:Af4 us):Rep K ?qL (?iG) (dT h w f):=by
 let#[_,tu,ez,hq,hl,Oc]:=Hn hr;cases ez;apply GL (Xj hq ne) hl ?lL;have e:?a1W tu (tu[i]' ?m1):=?gZ;let ?LR:=Oc i _ e;apply#[b,by rw[e,eb],?_];rcases hb with(hb|⟨q,hb⟩) | hb
 . apply Xj (?i (?i hb)) ?B7;rw[z,hD]at hb;have e1:us=?QC:=by injection hb with e;injection e
   have T6:=hw O9m;have e2:us[0]?=?c (?f (f i 0)):=by rw[e1];exact Cm T6
   let#[c,hc]:=xK _ (qb3 e2);cases hc
 . apply Xj (?a14 q hb) ?B7;rw[z,hD]at hb;cases hb
 . exact ?o hb
structure jP(D nm r1 D1 D2 b2:Addr):Prop where
 e1:nm≠D
 e2:r1≠D
 e3:D1≠D
 e4:D2≠D
 e5:b2≠D
def Rm.put[?V]{H:Hp}{D tp nm r1 D1 D2 b2:Addr}{n w k:Nat}[?d2][?f8]{o:HO}[?X6](ne:?QE)[?CG](xK:Af4 us):?YB ?qL :=
 #[TV x.tup hD,Xj x.num ne.e1,?a1R ?BF ne.e2,?a1R ?uG ne.e3,?a1R ?w7 ne.e4,?a1R ?wJ ne.e5]
def j5.ne[?V][?c4]{tp nm r1 D1 D2 b2 D:Addr}{n w k:Nat}[?d2]{o:HO}[?X4](hD:H D=?dB):?QE:=by
 have go:∀a,(a=nm\/a=r1\/a=D1\/a=D2\/a=b2)->a≠D:=λa h z=>by
  have:=(x.new a h).1;rw[z,hD]at this;cases this
 exact#[go _ ?b3,go _ (?o ?b3),?a1Q ?b3,?a1Q (?o ?b3),?a1Q (?o (?o rfl))]
abbrev YG[?F](H:Hp)(a D:Addr)[?O](k:Nat)(σ:St)(G':Hp):Prop :=
 ∃(us:?x) (ls:?bY) (la ga:Addr) (z:Nat) (L G:Lat.Mat) (o4 o5 o6 o7:Option V),σ=[rS a,rS D,rS la,rS ga,o4,o5,o6,o7]/\?H5/\G' D=?bR/\ls.length=k/\?ZQ xs k/\Fy D G' us ls/\la≠D/\ga≠D ∧
   Rep K G' (?p la) (dT z ?kE L)/\Rep K G' (?p ga) (dT z ?kE G)/\Lat.Lev (?ZP (?aA-1)) ?kE z (Lo xs ?aA) L G/\z<=?wT/\?gG z ?kE ?cO L/\?gG z ?kE ?cO G
def Fy.out{D:Addr}{H:Hp}[?b6][?d3][?tY]:?QS :=
 (?a1V #[a,us,e,_,h1,h2] ?Q9)
def Fy.same{D:Addr}[?c4][?b6][?d3][?tY][?cG]:Fy D H' vs ls :=
 (?a1V ?FE #[a,us,e,n,?jV,?SK])
def Fy.refs{D:Addr}{H:Hp}[?b6][?d3][?tY]:Af4 vs:=λu hu=>by
 let#[i,hi]:=qf7 hu;have hl:=(?bI hi).1;have h0:=h.1;let#[a,_,e,_]:=h.2 i u _ hi (?gZ);exact#[a,e]
def Fy.snoc{D E:Addr}{H:Hp}{vs eu:?x}[?d3][?bF][?tY](hD:?a2A D vs)(ne:E≠D)(hE:?a2A E eu)(r:B7 H eu ps):Fy D (upd H D (?A (vs++[?p E]))) (vs++[?p E]) (ls++[ps]):=by
 apply#[?D3,λi v qs e1 e2=>?_];have h0:=h.1;by_cases hi:?QJ
 . rw[?vJ]at e1;rw[?pM]at e2;let ?FE:=h.2 i v qs e1 e2;exact#[a,us,e,n,by rw[Ak n];exact h1,?AA hD h2]
 . have hi2:=?VO;rw[qa8,qn5]at hi2;have ei:?K0:=O9m
   subst ei;rw[?e4,qh2]at e1;rw[h0,?e4,qh2]at e2;have q1:v=?p E:=?MY
   have q2:qs=ps:=?MC
   subst q1 q2;exact#[E,eu,rfl,ne,by rw[Ak ne];exact hE,?AA hD r]
universe Hb
namespace L2
open PySem PySem.Spec PyProof.Rows PySem.SeqAt
section
variable{X:Cx}{n:Nat}[?V]
universe e9
universe L2
namespace Hb
open PySem L2
abbrev Xp[?b1]:?eA:=ps.filter λp=>?j (p.1≠1)
def FU[?b1](p:BPart):Xp ?HE=if ?qO then ?pU else ?pU++[p]:=by
 unfold Xp;rw[qg3];by_cases h:?qO
 . rw[?g0,ql0,?h (by simp[h]),qp2,qp3]
 . rw[?cF,ql0,?q (by simp[h]),qp2]
abbrev lift1(fl:Ms)[?dU](g:?bC):?c9:=?vY ?NL (?bW (?gV ?NL []) (?c5 g.2 fl))
abbrev KO[?dU](p:BPart):?c9:=if ?qO then p.2.2.1.foldl (lift1 ?cJ) lf else lf
abbrev Wl[?dU][?b1]:?c9:=?r5 KO lf
abbrev N8(n:Nat)[?f2]:?c9:=ls.foldl Wl (?vM)
structure Ip(ms:Ms):Prop where
 n:?eB
 z:nz ms
 k:inK ms
def Ip.nil:Ip []:=#[List.nodup_nil,(λp h=>?r2),(λp h=>?r2)]
def Ip.len{ms:Ms}(h:Ip ms):ms.length<=40:=by
 have:=qQ (?a2 λ(p:?bC)=>p.1) (yP 40) h.n λx hx=>by
  let ?v4:=?b5 hx;have:=h.k p hp;unfold yP;exact ?wQ #[?iX,?y6,O9m]
 rwa [qa2,jV]at this
def GG{ms:Ms}{j:Int}(h:?pL≠0):j∈?a2 (·.1):=by
 by_cases e:j∈?a2 (·.1)
 . exact e
 . exact ?Q (Gf e) h
def Ip.plus[?XG]:Ip ?e8:=by
 let#[r1,r2,_,r4]:=?U5;apply#[r1,r2,?aR];have e:=T4 r1 hp;have e2:Br ?e8 p.1=p.2:=by unfold Br;rw[e];rfl
 have hz:=r2 p hp;rw[←e2,r4]at hz
 have:p.1∈?a2 (·.1)\/p.1∈?rV (·.1):=by
  by_cases q:?I4=0
  . exact ?o (GG O9m)
  . exact ?i (GG q)
 rcases this with h | h
 . let ?UB:=?o9;rw[←eq];exact h1.k q hq
 . let ?UB:=?o9;rw[←eq];exact h2.k q hq
def Ip.times{ms:Ms}(h:Ip ms)(n:Int):Ip ?o4:=by
 unfold timesI;split
 . exact Ip.nil
 . rename_i hn
   apply#[?_,?aR,?aR]
   . have:=h.n;unfold nd at this ⊢;rw[qm1];ext c3
   . ext CC;exact Int.mul_ne_zero hn (h.z q hq)
   . ext CC;exact h.k q hq
abbrev j3(n:Nat)[?dU]:Prop:=lf.length=n/\∀m∈lf,Ip m
def j3.at{n:Nat}[?aD](h:j3 n lf)(i:Nat):Ip ?g6:=by
 rw[qa0];cases e:lf[i]? with
 | none=>exact Ip.nil
 | some m=>exact h.2 m (qb3 e)
def j3.lift1{n:Nat}[?aD]{fl:Ms}(h:j3 n lf)(hf:Ip fl)(g:?bC):j3 n (lift1 fl lf g):=by
 apply#[by unfold Hb.lift1;rw[qi2];exact h.1,?k8];rcases qo2 hm with q | rfl
 . exact h.2 m q
 . exact(h.at _).plus (hf.times _)
structure SI(n:Nat)(p:BPart):Prop where
 gk:∀g∈?eI,0<=g.1/\g.1<?k
 fl:Ip ?cJ
 mul:∀g∈?eI,∀q∈?cJ,?fZ g.2 q.2
abbrev En(O H:Hp)(vs:?x)[?dU]:Prop:=vs.length=lf.length/\∀(i:Nat) v,?jA->∃c,v=?fG/\?x1/\?a2P c ?g6
def j3.first(n:Nat):j3 n (?vM):=#[qc5 ..,λm hm=>by rw[(?lX hm).2];exact Ip.nil]
def En.same{O H H':Hp}[?b6][?aD][?tX][?cG]:?GQ :=
 #[h.1,λi v e=>let ?RK:=?FX;#[c,e1,e0,?a1O e2]]
def En.keep{O H H':Hp}[?b6][?aD][?tX](s:∀c kvs,?x1->H c=?c (.dK kvs)->H' c=?c (.dK kvs)):?GQ :=
 #[h.1,λi v e=>let ?RK:=?FX;#[c,e1,e0,s _ _ e0 e2]]
def En.snoc{O H:Hp}[?b6][?aD]{c:Addr}{m:Ms}[?tX][?BX]:En O H (vs++[?fG]) ?KB:=by
 have h0:=h.1;apply#[by rw[qa8,qa8,h0];rfl,λi v ei=>?_];rw[qa0];by_cases hi:?QJ
 . rw[?vJ]at ei;rw[?pM,←qa0];exact h.2 i v ei
 . have hi2:=(?bI ei).1;rw[qa8,qn5]at hi2;have eq:?K0:=O9m
   subst eq;rw[?e4,qh2]at ei;rw[h0,?e4,qh2];have q1:v=?fG:=by simpa using ei.symm
   exact ?QG
def En.set{O H:Hp}[?b6][?aD]{c:Addr}{m:Ms}[?tX][?BX](i:Nat):En O H (vs.set i (?fG)) (?vY i m):=by
 have h0:=h.1;apply#[by rw[qi2,qi2,h0],λj v ej=>?_];rw[qa0];by_cases q:i=j
 . subst q;have hl:=(?bI ej).1;rw[qi2]at hl;rw[ql6 hl]at ej;rw[ql6 ?d];have q1:v=?fG:=by simpa using ej.symm
   exact ?QG
 . rw[qk0 q]at ej;rw[qk0 q,←qa0];exact h.2 j v ej
abbrev Ki[?d6]:Sp:=λvs H Q _=>Ut λ ?cU ?m4 ?y4=>Er ?sS (H a=?bR) (?KK) (ps.length<=1000) (∀(D:Addr) (us':?x) (H':Hp),?c7->?W->?cK=?XX us'->B7 H' us' (?pU)->?cQ)
abbrev We[?F]:Sp:=λvs H Q _=>eE λ ?cR ?U ?m4 ?yC=>Oy ?fV ?aK ?dM (H b=?bR) (Ol H us ls) ((∀ps∈ls,?TC)) (∀(D:Addr) (ws:?x) (H':Hp),?c7->?W->?cK=?XX ws->En H H' ws (N8 ?D ls)->?cQ)
def Vn(n:Nat):Bs n=((n-1:Nat):Int):=by
 unfold Bs;ext f6
def NC[?g]{p:?e}(h:JP xs p):Z8 xs (tI p)=true:=by
 have bl:∀f∈p,∃q,?HD=?dY/\?AP=q/\?a0J f.toNat/\q.length-1+1=p.length-1:=λf hf=>by
  let#[q,e,l]:=h.bel f hf;let#[hlt,_]:=?bI e;exact#[q,e,by rw[qa0,e];rfl,hlt,l]
 show Z8 xs (?aB (Fg p))=true;rw[Qt];have hl:(Fg p).length=p.length:=by simp[Fg]
 rw[hl];simp only[qc3,qs1];apply#[#[?_,?_],?_]
 . rcases h.cnt with e | e | e | e<;>rw[e]<;>rfl
 . rw[qd8];intro d hd;let ?v7:=?b5 hd;let#[q,e,eq,hlt,l]:=bl f hf;have h0:=h.low f hf;show(?j (0<=f)&&?j (f<?w)&&?j (Bs ?SY=Bs p.length-1))=true;rw[eq,Vn,Vn];simp only[qc3,qp7];omega
 . by_cases h3:3<=p.length
   . right
     have e0:(Fg p).map WM=p:=by
      unfold Fg;rw[qm1];exact ?EU p
     rw[e0];ext WU;have hj:=?fA hj;have hi:=?eU;unfold Up;rw[qp7];have ej:p[j]?=?c p[j]:=?rS;have ei:?a1W p (p[i]' ?m1):=?gZ;let#[q,e1,e2,_]:=bl p[j] (qf0 hj);let#[r,e3,e4,_]:=bl (p[i]' ?m1) (?fT);have key:=h.agr h3 i j _ _ q r hi ej ei e1 e3;rw[show ?qG=p[j] by rw[qa0,ej];rfl,show ?qH=p[i]' ?d by rw[qa0,ei];rfl,e2,e4,qa0,qa0,key]
   . left;rw[Vn];ext bN
def Xw[?g]{k:Int}[?nA][?n8](h:q∈?UR):(0<=q.1/\?AS)/\∃c,c<?dQ/\q.2=v c:=by
 let ?lD:=vQ h;have h3:=Di h1;let#[c,hc,e]:=?b5 h2;exact#[#[h3.1,h3.2.1],c,?fA hc,?i1]
def Ae6[?g][?n4](k:Int)(v:?s):Ip (?UR):=by
 apply#[?_,?h2,?h2]
 . have:=oM (sp:=?b4) (ns:=?LP) (by rw[Jw]) (?uR);unfold nd at this ⊢;exact this.sublist (?MG _ (qw5 ..))
 . have:=(?q0 hq).2;ext n5
 . have:=(Xw hq).1;omega
def BV.ok[?g]{k:Int}[?bF](h:?LE)[?n4]:?TC:=by
 let ?M5:=h;intro p hp;ext CB;have hi:=?eU;have hz:z<=40:=?S5;apply#[λg hg=>(Xw hg).1,?_,λg hg q hq=>?_]
 . show Ip (?vN);split
   . exact Ip.nil
   . exact Ae6 K6 _ _
 . let#[_,c,hc,e]:=Xw hg
   replace hq:q∈(?vN):=hq
   split at hq
   . cases hq
   . rename_i e0
     have hik:i<k0:=by
      by_cases hh:i<k0
      . exact hh
      . unfold Lat.numAt at e0;rw[?h hh]at e0;exact ?Q rfl e0
     let#[_,d,hd,e2]:=Xw hq
     have h1:(?AT z l.1 G i c).natAbs<2 ^ (bookF+bookF+z):=SG λj hj=>by
      rw[qb6,qe8];exact qq7 (bl.fin.bl.1 i j hi hj) (bl.bG j c hj hc)
     have h2:=bl.fin.br.1 i d (qb7 hik bl.kw) hd;rw[e,e2];exact Jd h1 h2 (by unfold bookF;omega)
def B7.kd[?c4](s:∀c o,H c=?dB->((∃l,o=?aB l)\/∃l,o=.dK l)->H' c=?dB):?F9
 | [],[],h=>h
 | ?lY,?kD,h=>by
   let#[?L0,h5]:=h;exact#[#[t,a,b,c,e,s _ _ h1 (?i ?dZ),?a1N h2,?a1N h3,?a1N h4,ne],B7.kd s h5]
 | [],?bT,h=>h.elim
 | ?bT,[],h=>h.elim
def BV.len[?g]{k:Int}[?bF](h:?LE)[?n4]:?sF:=by
 let ?M5:=h;unfold Gp;rw[qa2,qd9];exact ?S5
abbrev mW[?u1]:Hp:=?JK
def Lj{H:Hp}{c d:Addr}(h:c≠d):mW H d c=H c:=?cF
def kT{H:Hp}{d:Addr}:mW H d d=none:=?r
def MV{H:Hp}{d:Addr}:?H ?D2 H:=λc o e=>by
 by_cases h:c=d
 . rw[h,kT]at e;cases e
 . rwa [Lj h]at e
def QY{O H:Hp}{d:Addr}(s:?H O H)(h:O d=none):?H O ?D2:=λc o e=>by
 rw[Lj (At e h)];exact s c o e
structure DZ[?F](C:Addr)(B:Hp)(p:Addr)[?O][?f2]:Prop where
 ob:Ex6 λdx P Lv Lf lu wu=>B p=?c (.ins C dx [(?LM,?p P),(?PU,?p Lv),(?v6,?p Lf)])/\Er (LT K B (?p P) xs) (B Lv=?XX lu) (Ol B lu (ls.map Xp)) (B Lf=?mC) (En ?iD B wu (N8 ?D ls))
 sh:?eE
 len:?l3
 n4:?SA
 lev:∀(k:Nat) ps,?uO->BV xs ?aA ps
 tie:?xA
abbrev kC[?F]:Sp:=λvs H Q _=>F1 λ ?jS ?U=>Bw (vs=[v]) (LT K H v xs) ?dM (?t2)
abbrev Ye[?F]:Sp:=?a2G (∀H',?W->?vV)
abbrev Ti[?F]:Sp:=?a2G ?kS
abbrev ET[?F](C:Addr):Sp:=λvs H Q _=>Ex6 λ(p dx a:Addr) ?m4 (H0:Hp) ?U=>YI (vs=[?lV,?K]) (H p=?c (.ins C dx [])) (H a=?bR) (?g9 K H0 us ?qZ) (?H H0 H) (H0 a=none) (H0 p=none) ?pS ?dM (∀(B:Hp) [?f2] (H':Hp),SameX p H H'->?w4->?H H0 B->?H B H'->B a=none->?vV)
def Ol.at{H:Hp}[?b6][?d3]{k:Nat}(h:?QS)(hk:k<ls.length):∃a us ps,vs[k]?=?A5/\?uO/\?uM:=by
 have h0:=h.1;have e1:vs[k]?=?c (vs[k]' ?m1):=?gZ;have e2:ls[k]?=?c ls[k]:=qa1 hk;let ?Q9:=h.2 k _ _ e1 e2;exact#[a,us,_,by rw[e1,e],e2,h1,h2]
universe Hb
namespace L2
open PySem PySem.Spec PyProof.Rows PySem.SeqAt
section
variable{X:Cx}
def dU:E4 X (.builtin ?AN) (λxs H Q=>∃a vs,xs=[?K,.ty ?yB]/\H a=?c ?QU/\?t2):=by
 ext W1;let#[_,its,_,ob,ho,hc,_]:=(?ZJ ?QU)
 exact PySem.IsiPair.tuple_tuple ho hc ?VI
def Oh:E4 X (.builtin ?AN) (λxs H Q=>∃a vs,xs=[?K,.ty ?nV]/\?a2A a vs/\?t2):=by
 ext W1;let#[_,its,m,_,ho]:=(?ZJ (?A vs))
 exact PySem.IsiPair.list_list ho rfl ?VI
universe e9
universe L2
namespace Hb
open PySem L2
universe Hb
namespace L2
open PySem PySem.Spec PyProof.Rows
structure PAw(X:Cx)(es:?MT)(t:TA):Prop where
 h:PA X es t
def N3{X:Cx}:PAw X [] tS:=#[Ac]
structure PEw(X:Cx)(e:Expr)(t:TE):Prop where
 h:?TT
universe L2
namespace Hb
open PySem L2
abbrev Xc[?b1]:Nat:=(?RE λp=>?j (?i8)).length
abbrev OG[?b1]:?e:=(?RE λp=>?j (p.1≠0)).map (·.1)
def lD[?g]{k:Int}[?iZ][?d2](h:k0<=z):(?z8).map (·.1)=?A4++?dD (z-k0) 0:=by
 unfold Gp Ie;rw[qm1];apply ?N8;rw[qb4];by_cases hi:i<k0
 . rw[qb8 (by rw[qa2,qd9];exact hi),qb4,qj4 hi,qj4 ?d];show ?J2=?c (f i);unfold Lat.numAt;rw[?z2]
 . rw[qb5 (by rw[qa2,qd9];omega),qa2,qd9,ql1];by_cases hz:i<z
   . rw[qj4 hz,?Z];show ?J2=?c 0;unfold Lat.numAt;rw[?oK]
   . rw[qg1 (by rw[qd9];omega),?l];rfl
def NS[?b1]:?fJ=((?r4 (·.1)).filter ?EI).length:=by
 unfold Xc Xp;rw[List.filter_filter,qv4,qa2]
 congr 1
 apply qx8 λp _=>?_;by_cases h:?i8
 . simp[h]
 . simp[h]
def OW[?b1]:?dC=(?r4 (·.1)).filter ?S6:=by
 unfold OG Xp;rw[List.filter_filter,qv4]
 congr 1
 apply qx8 λp _=>?_;by_cases h:?i8<;>by_cases h1:?qO<;>simp[h,h1]
def aI.count[?g]{j:Int}[?iZ][?d2][?CE]:Xc (?XV Gp j)=z-k0:=by
 rw[NS,lD b.kz,qg3,qa8]
 have e1:?SZ (?EI)=[]:=?s4 λn hn=>by
  ext WE;ext bN
 rw[e1,?yU λn hn=>by rw[?wA];rfl,qc5,qr5,qv1]
def aI.twist[?g]{j:Int}[?iZ][?d2][?CE]:OG (?XV Gp j)=?SZ ?gA:=by
 rw[OW,lD b.kz,qg3];have e1:(?dD (z-k0) ?bJ).filter (?S6)=[]:=?s4 λn hn=>by rw[?wA];simp
 rw[e1,qp3];apply qx8 λn hn=>?_;ext WE;by_cases h:1<f i
 . rw[qe1 h,qe1 ?d]
 . rw[qf2 h,?r8]
abbrev nL(ns:LLInt):D:=?A (?rV λn=>?A (Fg n))
abbrev Qg(H:Hp)(D:Addr)(ms:LLInt):Prop:=∃bs:?eT,?a2A D (bs.map ?dP)/\?O3/\?TP
def Qg.same[?c4][?XE][?cG]:Qg H' D ms :=
 let ?P3:=h
 #[bs,?jV,h2,λj b n e1 e2=>#[(?KV).1,s _ _ (?KV).2]]
def Qg.rep[?V]{H:Hp}[?XE]:?Z0 (?p D) (nL ms):=by
 let ?P3:=h;apply#[D,_,rfl,.of h1,?_];clear h1
 induction ms generalizing bs with
 | nil =>
   have:bs=[]:=List.length_eq_zero_iff.mp h2;subst this;exact rfl
 | cons n ms ih =>
   cases bs with
   | nil=>simp at h2
   | cons b bs =>
     apply#[?dA,bs.map ?dP,rfl,#[b,_,rfl,.of (h3 0 b n rfl rfl).2,Ey.mpr rfl],ih bs (by simpa using h2) λj c m e1 e2=>h3 ?a0 c m (by simpa using e1) (?G8)]
def Qg.snoc[?c4]{D b:Addr}{ms:LLInt}{n:?e}{bs:?eT}(h1:?a2A D (bs.map ?dP))(h2:?O3)(h3:?TP)[?cG](nb:?nI)(hb:H' b=?XX (n.map ?a7)) :
 ∀(j:Nat) c m,(bs++[b])[j]?=?hQ->(ms++[n])[j]?=?c m->c≠D/\upd H' D (?A ((bs++[b]).map ?dP)) c=?XX (m.map ?a7):=λj c m e1 e2=>by
 by_cases hj:j<bs.length
 . rw[qb8 hj]at e1;rw[?pM]at e2;let ?mR:=h3 j c m e1 e2;exact#[q1,by rw[Ak q1];exact ?a1O q2]
 . have hl:=?VO;rw[qa8,qn5]at hl;have ej:j=bs.length:=O9m
   subst ej;rw[?e4,qh2]at e1;rw[h2,?e4,qh2]at e2;have q1:c=b:=?MY
   have q2:m=n:=?MC
   subst q1 q2;exact#[nb,by rw[Ak nb];exact hb]
def KL:∀ms:LLInt,?T3<=1
 | []=>?aF
 | m::ms=>by
   have:=KL ms;have e:deps ((m::ms).map ?CU)=max (deps (Fg m)+1) (?T3):=rfl;rw[e,V1];omega
section
variable[?F]
abbrev AS(C:Addr):Sp:=?a37 (∀[?b1] (H':Hp),ls[k.toNat]?=?fS->?W->Q (?f ?u9) H')
abbrev Yj(C:Addr):Sp:=?a37 (∀[?b1] [?n6],ls[k.toNat]?=?fS->?a28 ((?dC).map ?a7))
universe e9
universe Hb
namespace Lat
open Hb
abbrev dgM(d:?s):Mat:=λi j=>if i=j then d i else 0
def SE{N:Nat}(d:?s)(p q:?s):?a2S p q=Aj (λi=>p i*d i*q i) N:=by
 unfold bil;apply ?zB;rw[?aH hi λk _ ne=>by unfold dgM;ext C5];unfold dgM;rw[?r,qe0]
def vV{N:Nat}(d:?s){x y:Nat}(hx:x<N):?a2S (one x) (one y)=?PF:=by
 rw[SE,?aH hx λk _ ne=>by ext bG;rw[?h λz=>ne ?dO,qg2,qg2]];ext bG;ext n3;by_cases h:x=y
 . rw[?g0,?GZ,qk5]
 . rw[?cF,?B6,qc7]
def Xo(N:Nat):∀a b,a<N->b<N->pT N one one a b=?rR:=λa b ha _=>by
 unfold pT;rw[?a16 ha ?eM];ext bG;ext n3
def FG(N:Nat):Fn N 0 one one:=λi j hi _=>by
 unfold pD;rw[?a16 hi ?l];ext bG;ext CD;by_cases h:i=j
 . ext C9
 . rw[?cF,?B6]
def VM(N:Nat)(d:?s)(hp:?SB):Ed N N N (?a3 d N).toNat ?l4 one one one one d :=
 #[?bM,?bM,λx y hx _=>vV d hx,hp,λx h1 h2 _=>O9m,O9m,FG N,FG N]
def SD{n w N:Nat}{A r hh:Mat}{d:?s}[?WP](p q:?s) :
 ?Z5 p q=?a2S (λi=>?YQ (λa=>p a*?l6)) (λi=>?UL):=by
 rw[SE];unfold bil
 have e:∀a,a<n->p a*?U6=Aj (λi=>p a*?l6*?GD) N:=λa ha=>by
  have e1:?U6=Aj (λi=>?l6*?GD) N:=by
   rw[?a0C hA,Cz];apply ?pP;rw[←Ba,←Ba];exact Ai λb _=>?M7
  rw[e1,←Ba];exact Ai λi _=>(?h0).symm
 rw[?i6,Cz];apply ?pP;rw[Ee,qe0]
def Ed.hand{n w m E N:Nat}{A P PB Q QB g fl r hh:Mat}{f d:?s}[?tJ](hc:?L3)
 (hp:?SB) (hd:ChainTo N N d) (hB:∀x y,x<N->y<N->?Z5 (g x) (fl y)=?PF) [?WP]:m=N/\∀x,x<m->f x=d x:=by
 have a1:=h.mn;have a2:=h.mw;have h':=VM N d hp;have d2:∀x y,x<m->y<m->?a2S (λi=>?FD) (λi=>?LG)=if x=y then f x else 0:=λx y hx hy=>by rw[←SD hA,?k6 x y ?d ?d]
 have e:m=N:=qi8 (h'.few (Xo N) (Xo N) (P':=?LN) (Q':=?DQ) d2 ?gQ) (h.few hl hr hB hp);subst e
 have pe:∀k,k<=m->?jZ=?a3 d k:=λk hk=>by
  have p1:0<?jZ:=Cd λj hj=>?gQ j O9m;have p2:0<?a3 d k:=Cd λj hj=>?uJ;exact Int.le_antisymm (qm2 p2 (h.pdvd hl hr hc (?ZB hB))) (qm2 p1 (h'.pdvd (Xo m) (Xo m) hd (P':=?LN) (Q':=?DQ) (?ZB d2)))
 apply#[rfl,?uV];have e1:=pe x O9m;have e2:?a3 f x*f x=?a3 d x*d x:=pe (x+1) hx;have p1:0<?a3 f x:=Cd λj hj=>?gQ j O9m;rw[←e1]at e2;exact qt1 O9m e2
universe Lat
namespace Hb
open PySem L2
structure Fd where
 d:Int
 r:?R
 g:?R
 h:?R
 f:?R
abbrev Jg[?j3]:?aO->Int
 | []=>0
 | ?fW=>?kY
def X9[?j3]:∀cs ds,?TZ=?hK+?xP
 | [],ds=>(qk8 _).symm
 | ?fW,ds=>by
   show F c+?TZ=?kY+?xP;rw[X9 F cs ds,qx3]
def lW[?j3]{cs ds:?aO}(h:cs.Perm ds):?hK=?xP:=by
 induction h with
 | nil=>rfl
 | cons x _ ih=>show F x+_=F x+_;rw[ih]
 | swap x y l=>show F y+(F x+_)=F x+(F y+_);omega
 | trans _ _ a b=>exact a.trans b
def U1{F:?x7}:∀{cs:?aO},(∀c∈cs,F c=0)->?hK=0
 | [],_=>rfl
 | ?fW,h=>by
   show ?kY=0;rw[h c ?S,U1 ?TA];rfl
def X8{F G:?x7}:∀{cs:?aO},(∀c∈cs,F c=G c)->?hK=Jg G cs
 | [],_=>rfl
 | ?fW,h=>by
   show ?kY=G c+Jg G cs;rw[h c ?S,X8 ?TA]
def eL[?j3](C:Nat->Fd):∀n,Jg F (?rQ C)=?YQ (λi=>F (C i))
 | 0=>rfl
 | n+1=>by
   rw[qg6,qb0,X9,eL F C n];show _+(F (C n)+0)=_+_;rw[ql3]
def jY[?j3](e:Fd):∀cs:?aO,?hK=Aj (λi=>F (?h6 i e)) ?LT
 | []=>rfl
 | ?fW=>by
   show ?kY=Aj (λi=>F ((?fW).getD i e)) (cs.length+1);rw[Lat.sumN_fst,jY F e cs];rfl
abbrev wB[?aC]:?e->Int
 | []=>0
 | ?fU=>?sY
def oU[?aC]:∀fs:?e,?m3=?FH
 | []=>rfl
 | ?fU=>by
   show ?sY=Aj (λi=>?g4*φ (?R0 i 0)) (fs.length+1);rw[Lat.sumN_fst,oU φ fs]
   have e:Aj (λj=>sg ?a0*φ (?R0 ?a0 0)) ?iK=-1*?FH:=by
    rw[←Ba];apply ?pP;show sg ?L*φ ?i7=-1*(?AQ);have:sg ?L=-1*?g4:=by unfold sg;omega
    rw[this,qe0]
   rw[e];show _=sg 0*φ f+_;have:sg 0=1:=?aF
   rw[this];omega
def Zc[?c2](e:Int):Jc fs e=wB (λx=>Oq x e) fs:=by
 rw[oU];exact FP fs e ?iK
 where
 FP (q:?e) (f:Int):∀n,?x8=?YQ (λi=>?g4*Oq (q.getD i 0) f)
  | 0=>rfl
  | n+1=>by
    have e:=FP q f n;show(if q.getD n 0=f then ?x8+1-2*(?k%2) else ?x8)=?YQ _+sg n*Oq (q.getD n 0) f;rw[←e];unfold Oq sg;by_cases h:q.getD n 0=f
    . rw[?g0,?g0];omega
    . rw[?cF,?cF];omega
def Tb{φ ψ:?R}:∀[?j2],(∀f∈fs,φ f=ψ f)->?m3=?vT
 | [],_=>rfl
 | ?fU,h=>by
   show ?sY=?PE;rw[h f ?S,Tb ?x3]
def HG[?aC](t:?R):∀fs:?e,?SU=wB (λx=>φ (t x)) fs
 | []=>rfl
 | ?fU=>by
   show ?E0-?SU=?E0-?zH;rw[HG φ t fs]
def OU(a b:Int)(φ ψ:?R):∀fs:?e,wB (?a2J x) fs=a*?m3+b*?vT
 | []=>by show ?bJ=a*0+b*0;rw[qc7,qc7];rfl
 | ?fU=>by
   show a*φ f+b*ψ f-?zH=a*(?sY)+b*(?PE);rw[OU a b φ ψ fs,Int.mul_sub,Int.mul_sub];omega
abbrev bl[?N](g f:?R):Int:=?Y5 ?jC ?jD
def Um[?O](k a b:Int)(φ ψ f:?R):?Y8 (?a2J x) f=a*?Y8 φ f+b*?Y8 ψ f:=by
 ext WI
 . rw[OU,qw7];simp only[qx9]
 . rw[qc7,qc7];rfl
def J0[?O](k a b:Int)(g φ ψ:?R):?Y8 g (?a2J x)=a*?Y8 g φ+b*?Y8 g ψ:=by
 ext WI
 . rw[qr9,qe0,qe0]
 . rw[qc7,qc7];rfl
structure Xf[?N](cs:?aO):Prop where
 told:∀q:Nat,?fQ->?jC->∀p:Int,Jc ?jD p=Jg (λc=>?RA*c.h ?aX) cs
 self:∀c∈cs,?Y8 c.g c.f=c.d
 apart:cs.Pairwise λa b=>?a2O a.g b.f/\?a2O b.g a.f
def X6[?N](F:?R):∀n,Aj (λb=>F ((?sR).getD b 0)) ?mO=?RF
 | 0=>rfl
 | n+1=>by
   show _=?RF+(if ?lG then F ?k else 0)
   rw[←X6 xs k F n];by_cases h:?lG
   . rw[?g0,Y0 h,qa8];show Aj _ ?mO+F ((?SH).getD ?mO 0)=_
     congr 1
     . apply Ai λb hb=>?_;rw[qa0,qb8 hb,←qa0]
     . rw[qa0,?e4,qh2];rfl
   . rw[?cF,CM h,ql3]
def aL{sp:?e}(hs:sp.Nodup)(g:?R):∀[?j2],(∀f∈fs,f∈sp)->?ZF ?rD=wB g fs
 | [],_=>by
   show ?ZF 0=0;rw[Ai (g:=?cM) λa _=>qc7 _,Mo]
 | ?fU,h=>by
   have ih:=aL hs g (fs:=fs) ?x3;show ?ZF (Oq f (?cT)-?rD)=g f-wB g fs;rw[←ih]
   have e:∀a,a<sp.length->g (?cT)*(Oq f (?cT)-?rD)=(if ?cT=f then g f else 0)+-1*(g (?cT)*?rD):=λa _=>by
    rw[Int.mul_sub];unfold Oq;by_cases z:f=?cT
    . rw[?a8,?q ?dO,←z];omega
    . rw[?b2,?h ?w9];omega
   rw[?i6,Cf,?aH hs (h f ?S),Ba];omega
def GH[?g][?b7][?CH]{k:Int}(hk:?vU):∀f∈?kN,f∈?b4:=λf hf=>by
 ext WH
 have F:=?QH;let ?TR:=?sD;ext WZ
 . rename_i hlt
   apply Xq f0 O9m ?_;rw[qa0,hp,Option.getD_some];unfold lev at hl;unfold Bs at hk ⊢;split at hk<;>split<;>omega
 . cases hp
def Af0[?g][?b7][?tW]:Lat.bil ?bB (?hZ) (Lo xs ?T) (λa=>g ?fM) (λb=>f (?qY))=bl xs ?T g f:=by
 rw[Lat.bil_flip];unfold Lat.bil bl;have e:=X6 xs ?T (λq=>f q*wB g (?a2N q.toNat)) ?D;have e2:?Y5 ?vU ?jD=?Y5 ?vU (?J ((q:Nat):Int).toNat []):=rfl;rw[e2,←e];apply Ai λb hb=>?_
 congr 1
 let ?pJ:=?JF;change 0<=?qY at q0;change ?qY<_ at q1;show Aj (λa=>Lo xs ?T a b*g ?fM) ?bB=wB g (?J (?qY).toNat []);rw[←aL (Id xs k) g (GH hs ?d q2)];apply ?a1G ?_;unfold Lo;rw[?yO,Zc,qf1]
abbrev Ng:Fd:=#[0,?cM,?cM,?cM,?cM]
abbrev WH(ds:?e):Prop:=ds.Pairwise λa b=>a∣b
def aI.hand[?g]{j:Int}[?iZ][?d2][?CE][?b7]{cs:?aO}(h:Xf xs ?a0 cs)(hp:∀c∈cs,0<c.d)(hc:WH (?cN (·.d))):?cN (·.d)=?A4:=by
 have eC:∀x,?D9->?wV∈cs:=λx hx=>by
  rw[qa0,qa1 hx];exact qf0 hx
 have hA:∀a b,a<?zY->b<?FW->Lo xs ?a0 a b=Aj (λi=>(?lT).r (?s8 a 0)*(?lT).d*?N4) ?LT:=λa b ha hb=>by
  let ?pJ:=?JF;have:=?sV ?TJ O9m q2 (?s8 a 0);rw[show((?TJ:Nat):Int)=?rE by omega]at this;unfold Lo;rw[show j+1-1=j by omega,this,jY _ Ng]
 have hT:=b.lev.told (qP hs j);have pw:=?v3 h.apart;have gE:∀x (hx:?D9),?wV=cs[x]:=λx hx=>by rw[qa0,qa1 hx];rfl
 have key:=b.fin.dg.hand b.fin.il b.fin.ir b.ch (N:=cs.length) (d:=λi=>(?lT).d)
  (g:=λx i=>Aj (λa=>(?wV).g (?s8 a 0)*L i a) ?rA) (fl:=λy b=>(?h6 y Ng).f (?rE))
  (r:=λi a=>Aj (λc=>G a c*(?lT).r (?s8 c 0)) ?rA) (hh:=λi b=>?N4)
  (λx hx=>hp _ (eC x hx)) (λa b ha hab hb=>by
    have:=?v3 hc a b (by rw[qa2];omega) (by rw[qa2];omega) hab;rw[qu5,qu5]at this;show(?h6 a Ng).d∣(?h6 b Ng).d;rw[gE a ?d,gE b hb];ext c3) (λx y hx hy=>by
    rw[←Lat.bil_via (A:=Lat.gT ?rA G (?H4)) (A':=?H4) (U:=λa i=>L i a) (n:=z) (n':=?zY) (w:=?FW) hT,Af0 hs];rw[gE x hx,gE y hy];by_cases e:x=y
    . subst e;rw[?r];exact ?yY _ (qf0 hx)
    . rw[?dR];rcases Nat.lt_or_gt_of_ne e with q | q
      . exact(pw x y hx hy q).1
      . exact(pw y x hy hx q).2) (λa b ha hb=>by
    show Aj (λc=>G a c*Lo xs ?a0 c b) ?rA=_;rw[Ai λc hc=>by rw[hA c b hc hb,←Ba],Cz];apply ?pP;rw[←Ee,←Ee];exact Ai λc _=>?M7)
 let#[rfl,e]:=key;apply List.ext_getElem (by rw[qa2,Jw]) λi h1 h2=>?_;rw[qa2]at h1;have:=e i h1;rw[qu5,←gE i h1,←this];simp only[Ie,qu5,List.getElem_range]
def oY[?g][?d3](h:?xA)[?b7](ds:?IN)(hd:∀j,j<4->(∃cs,?cN (·.d)=ds j/\Xf xs (?lJ) cs)/\(∀d∈ds j,0<d)/\WH (ds j)){k:Nat}(hk:k<4)[?bF][?CM] :
 ?fJ+(if k=0 then 0 else(ds ?sI).length)+(ds k).length=?wT/\?dC=(ds k).filter ?gA:=by
 let#[_,_,_,zs,ks,Ls,Gs,fs,lp,rp,t,_]:=h
 have num:∀j,j<4->ds j=Ie (ks j) ?yW:=λj hj=>by
  let#[?LJ,p,c]:=hd j hj;let#[b,_]:=?KI;rw[←e]at p c ⊢;exact b.hand hs hh (λd hd=>p _ (qk4 hd)) c
 let#[b,e]:=t.lv k hk;rw[e]at hp;cases hp;rw[b.count,b.twist,num k hk,Jw];apply#[?_,rfl];have kz:=b.kz;have zm:=b.zm;cases k with
 | zero =>
   rw[?r,t.z0.1]at *;show ?g7-ks 0+0+ks 0=?g7;omega
 | succ q =>
   have ez:=(t.nx q O9m).1;let#[b',_]:=t.lv q O9m;have kw':=b'.kw;rw[?l,qp1,num q ?d,Jw];rw[show((q+1:Nat):Int)=?aX+1 by omega]at *;omega
structure Sup(L:Nat)(a:Int)(c:Fd):Prop where
 g:∀p:Int,?fK<=p->c.g p=0
 at0:c.g a=0
 h:?a1B ?fK c.h
 f:?a1B ?fK c.f
abbrev Es[?N](L:Nat)(a:Int)(ds:?e):Prop:=∃cs:?aO,?cN (·.d)=ds/\?o1/\∀c∈cs,Sup L a c
def MN{ds ds':?e}(h:?UV):∀cs:?aO,?cN (·.d)=ds->∃cs':?aO,cs.Perm cs'/\cs'.map (·.d)=ds':=by
 induction h with
 | nil=>exact λcs e=>#[cs,.refl _,e]
 | cons x _ ih =>
   intro cs e;cases cs with
   | nil=>simp at e
   | cons c cs =>
     rw[qd3,qr7]at e;let#[cs',p,e']:=ih cs e.2;exact#[c::cs',p.cons c,by rw[qd3,e.1,e']]
 | swap x y l =>
   intro cs e
   match cs,e with
   | c1::c2::cs,e =>
     rw[qd3,qd3,qr7,qr7]at e;exact#[c2::c1::cs,.swap ..,by rw[qd3,qd3,e.1,e.2.1,e.2.2]]
 | trans _ _ a b =>
   intro cs e;let#[c1,p1,e1]:=a cs e;let#[c2,p2,e2]:=b c1 e1;exact#[c2,p1.trans p2,e2]
def Xf.perm[?g]{k:Int}{cs cs':?aO}(h:?o1)(p:cs.Perm cs'):Xf xs k cs' :=
 #[λq hq hk e=>by rw[?sV q hq hk e,lW _ p],λc hc=>?yY c (p.mem_iff.mpr hc),(p.pairwise_iff λz=>#[z.2,z.1]).mp h.apart]
def Es.perm[?g]{k a:Int}{L:Nat}{ds ds':?e}(h:?q7)(p:?UV):?Y3 ds':=by
 let ?xK:=h;let#[cs',q,e']:=MN p cs e;exact#[cs',e',hh.perm q,λc hc=>s c (q.mem_iff.mpr hc)]
abbrev zW(d a b a' b' u v u' v':Int)(x y:Fd):Fd:=#[d,λp=>a*?jQ+b*?m0,?a33 a' b',λp=>u*x.h p+v*y.h p,?a34 u' v']
def Sup.mix{L:Nat}{a:Int}{x y:Fd}(hx:Sup L a x)(hy:Sup L a y)(d p q p' q' u v u' v':Int):Sup L a (zW d p q p' q' u v u' v' x y):=by
 have z:∀s t:Int,s*0+t*0=0:=λs t=>by rw[qc7,qc7];rfl
 apply#[?yH,?_,?yH,?yH]
 . show _*x.g e+_*y.g e=0;rw[hx.g e h,hy.g e h,z]
 . show _*x.g a+_*y.g a=0;rw[hx.at0,hy.at0,z]
 . show _*x.h e+_*y.h e=0;rw[hx.h e h,hy.h e h,z]
 . show _*x.f e+_*y.f e=0;rw[hx.f e h,hy.f e h,z]
def Es.share[?g]{k a:Int}{L:Nat}{ds:?e}{g a' b' u v:Int}(uv:?vP=1)(h:?Y3 (g*a'::g*b'::ds)):?Y3 (g::?h8::ds):=by
 let ?xK:=h;obtain⟨x,cs,rfl⟩:?NH:=?IA
 obtain⟨y,cs,rfl⟩:?NH:=?IA
 . rw[qd3,qd3,qr7,qr7]at e;let#[ex,ey,e]:=e;have ap:=hh.apart;rw[qi6,qi6]at ap;let#[apx,apy,ap]:=ap;let#[xy,yx]:=apx y ?S;have xx:=?oR x ?S;have yy:=?oR y (?ZY ?S);rw[ex]at xx;rw[ey]at yy;apply#[zW g ?qN ?hU 1 1 a' b' u v x y::zW (?h8) (-1) 1 (-?hU) ?qN (-v) u (-b') a' x y::cs,by rw[qd3,qd3,e];rfl,?wN,?k9]
   . rw[hh.told q hq hk p];show ?jQ*x.d*?pQ+(?m0*y.d*?qX+Jg _ cs)=(u*a'*?jQ+v*b'*?m0)*g*(a'*?pQ+b'*?qX)+((-1*?jQ+1*?m0)*(?h8)*(-v*?pQ+u*?qX)+Jg _ cs)
     rw[ex,ey];generalize ?jQ=X;generalize ?m0=Y;generalize ?pQ=P;generalize ?qX=R
     grind
   . ext mW
     . show ?Y8 (?a33 1 1) (?a34 u v)=g;ext tR
       grind
     . ext mW
       . show ?Y8 (λp=>-?hU*x.g p+u*a'*y.g p) (λp=>-b'*x.f p+a'*y.f p)=?h8;ext tR
         grind
       . exact ?oR c (?ZY (qa9 _ hc))
   . have out:∀(p q u v:Int),∀c∈cs,?a2O (λz=>p*x.g z+q*y.g z) c.f/\?a2O c.g (λz=>u*x.f z+v*y.f z):=λp q u v c hc=>by
      let#[z1,z2]:=apx c (?ZY hc);let#[z3,z4]:=apy c hc;rw[Um,J0,z1,z2,z3,z4]
      grind
     rw[qi6,qi6];apply#[?k9,λc hc=>?UE,ap];ext mW
     . constructor
       . show ?a2O (?a33 1 1) (λp=>-b'*x.f p+a'*y.f p);ext tR
         grind
       . show ?a2O (λp=>-?hU*x.g p+u*a'*y.g p) (?a34 u v);ext tR
         grind
     . exact ?UE
   . have sx:=s x ?S;have sy:=s y (?ZY ?S);ext mW
     . exact ?DA
     . ext mW
       . exact ?DA
       . exact s c (?ZY (qa9 _ hc))
def bez:∀a b:Nat,∃u v:Int,u*?hE+v*(b:Int)=(Nat.gcd a b:Int):=λa b=>by
 induction a,b using Nat.gcd.induction with
 | H0 n=>exact#[0,1,by rw[Nat.gcd_zero_left];omega]
 | H1 m n hm ih =>
   let ?HV:=ih;apply#[v-u*?v9,u,?_];rw[Nat.gcd_rec,←e];have h:=Nat.div_add_mod n m;have h':?k=?aV*?v9+?IH:=by rw[←Int.natCast_mul,←Int.natCast_add,h]
   generalize ?v9=q at h' ⊢;generalize ?IH=r at h' ⊢;rw[h']
   grind
def Nb{t c:Int}(ht:0<t)(hc:0<c):∃a' b' u v:Int,t=?e6*a'/\c=?e6*b'/\?vP=1/\0<?e6/\t*c / ?e6=?e6*a'*b'/\0<a'/\0<b':=by
 have hg:0<?e6:=by
  have:=Int.gcd_pos_of_ne_zero_left c (show t≠0 by omega);omega
 let#[a',ea]:=Int.gcd_dvd_left t c;let#[b',eb]:=Int.gcd_dvd_right t c;let ?HV:=bez t.natAbs c.natAbs;rw[show((t.natAbs:Nat):Int)=t by omega,show((c.natAbs:Nat):Int)=c by omega]at e;have e':u*t+v*c=?e6:=e;generalize ?e6=g at *;apply#[a',b',u,v,ea,eb,?_,hg,?_,?_,?_]
 . apply qt1 (a:=g) O9m ?_;rw[qk5,qw7,←e',ea,eb]
   grind
 . rw[ea,eb,show g*a'*(g*b')=g*(?h8) by grind,qj5 _ ?d]
 . exact pos hg (by rw[←ea];exact ht)
 . exact pos hg (by rw[←eb];exact hc)
where
 pos {g x:Int} (hg:0<g) (h:0<g*x):0<x:=by
  rcases Int.lt_or_le 0 x with z | z
  . exact z
  . have:=qj1 z (show 0<=g by omega);rw[qc7]at this;omega
abbrev Dk(n:Int):?e->Int × ?e
 | []=>(n,[])
 | ?g2=>(?mM,?P0)
def Kf{n:Int}[?cI]:∀[?f4],?lN->0<?h7/\∀m∈?gY,0<m
 | [],_=>#[hn,λm hm=>?s7]
 | ?g2,h=>by
   let ?lD:=Kf hn (row:=ts) ?oV;let ?tC:=Nb (h t ?S) h1;apply#[hg,?k8];ext tQ
   . rw[el];exact qu1 (qu1 hg pa) pb
   . exact h2 m hm
def BD(n:Int):∀row:?e,(?zF).2.length=row.length
 | []=>rfl
 | ?g2=>by show(?AK).2.length+1=ts.length+1;rw[BD n ts]
def bD(n x:Int):∀[?f4],?lN->0<n->(∀t∈row,x∣t)->∀m∈?gY,x∣m
 | [],_,_,_,m,hm=>?s7
 | ?g2,hp,hn,h,m,hm=>by
   ext tQ
   . ext VT;exact ?O6 (h t ?S)
   . exact bD n x (?oZ) hn (?oV) m hm
def bE{n:Int}[?cI]:∀[?f4],?lN->WH row->WH (?HF)
 | [],_,_=>List.pairwise_singleton ..
 | ?g2,hp,hc=>by
   ext WV;unfold WH at hc;rw[qi6]at hc;have ih:=bE hn EC hc.2;unfold WH at ih;rw[qi6]at ih;let#[h1,_]:=?JL;let ?tC:=?RR;have tm:=bD n t EC hn hc.1;show List.Pairwise _ (?mM::?P0);rw[el];generalize ?mM=g at *;generalize ?nX=c at *
   have lm:∀m∈?s6,?h8∣m:=λm hm=>by
    let#[x,ex]:=tm m hm;let#[y,ey]:=ih.1 m hm;apply#[v*x+u*y,?_];have:m=m*(?vP):=by rw[uv,qk5]
    rw[this,qw7];have e1:m*?qN=c*y*?qN:=by rw[ey]
    have e2:m*?hU=t*x*?hU:=by rw[ex]
    rw[e1,e2,ea,eb]
    grind
   rw[qi6,qi6];apply#[?k8,lm,ih.2];ext tQ
   . exact ?G0
   . exact qu2 ?G0 (lm m hm)
def Es.join[?g]{k a n:Int}{L:Nat}[?cI]:∀[?f4] (rest:?e),?lN->?Y3 (n::(row++rest))->?Y3 (?h7::(?gY++rest))
 | [],rest,_,h=>h
 | ?g2,rest,hp,h=>by
   ext WV;have h1:=Es.join hn (t::rest) EC (h.perm (?uF n List.perm_middle.symm));have h2:?Y3 (t::?nX::(?s6++rest)):=?wC ((?uF _ List.perm_middle).trans (List.Perm.swap ..));let#[q1,_]:=?JL;let ?tC:=Nb (hp t ?S) q1;show ?Y3 (?mM::?JX::(?s6++rest));rw[el];apply Es.share uv ?_;rw[←ea,←eb];exact h2
abbrev BC(row:?e)(n:Int):?e:=if n=1 then row else if 1<?h7 then ?HF else ?gY
abbrev Il[?N](L:Nat)(a:Int)(row:?e)(D:Nat):Prop:=∃m,?Y3 ?nM/\?R8
def Il.ones{xs xs':LLInt}{k a a':Int}{L L':Nat}[?f4]{D:Nat}(h:?K6)(i:Nat)(st:∀ds,?q7->Es xs' k L' a' (?dD i 1++ds)):Il xs' k L' a' row (D+i):=by
 ext tU;apply#[m+i,(st _ h1).perm ?_,O9m,h3,h4];ext WS
def Il.put[?g]{k a n:Int}{L:Nat}[?f4]{D:Nat}[?cI](h:∃m,?Y3 (n::?nM)/\?R8):Il xs k L a (BC row n) (D+1):=by
 ext tU;have hp:?NZ:=λt ht=>by have:=h4 t ht;omega
 unfold BC;have one:∀row:?e,(1::?nM).Perm (row++?dD ?dI 1):=λrow=>List.perm_middle.symm;by_cases e:n=1
 . subst e;rw[?r];exact#[m+1,?wC (one row),O9m,h3,h4]
 . rw[?dR];have hj:=Es.join hn _ hp h1;let ?mR:=Kf hn hp;have ch:=bE hn hp h3;have ln:=BD n row
   have gt:?NQ:=λz hz=>by
    let ?iC:=qj3 hz;have:=gB hn hp h4 _ hz;ext c3
   by_cases c:1<?h7
   . rw[?q c];apply#[m,hj,by rw[qe4,ln];omega,ch,?NB];rcases ?fI ht with rfl | ht
     . exact c
     . exact gt t ht
   . rw[?h c];have c1:?h7=1:=O9m
     rw[c1]at hj;apply#[m+1,hj.perm (one _),by rw[ln];omega,(qi6.mp ch).2,gt]
where
 gB {n:Int} [?cI]:∀[?f4],?lN->(?S7)->?NQ
  | [],_,_,m,hm=>?s7
  | ?g2,hp,h,m,hm=>by
    ext tQ
    . ext VT;have:=h t ?S;have p:t*1<=t*b':=qj1 O9m O9m;omega
    . exact gB hn (?oZ) (?oV) m hm
def Il.told[?g]{k a:Int}{L:Nat}[?f4]{D:Nat}(h:?K6):∃ds,(∃cs:?aO,?cN (·.d)=ds/\?o1)/\(∀d∈ds,0<d)/\WH ds/\ds.length=D/\(ds.filter ?gA)=row:=by
 ext tU;let#[cs,e,hh,_]:=?wC List.perm_append_comm;apply#[_,?LJ,λd hd=>?_,?_,by rw[qa8,qc5];omega,?_]
 . rcases ?j5 hd with z | z
   . rw[(?lX z).2];decide
   . have:=h4 d z;omega
 . apply ?GI #[List.pairwise_replicate.mpr (?o (qy4 _)),h3,λx hx y _=>?_];rw[(?lX hx).2];exact Int.one_dvd _
 . rw[qg3,?s4 λn hn=>by rw[?wA];decide,qn4];exact ?yU λn hn=>qe1 (h4 n hn)
def X7[?d5](a:Nat):?SD
 | 0=>(ql3 _).symm
 | b+1=>by
   show ?wG+f (a+b)=?tI+(?VL+f (a+b))
   rw[X7 f a b,qx3]
abbrev vU(ys:LLInt)(n:Nat)[?tW]:Int:=Aj (λj=>if ?YA ?QA=k then f ((n+j:Nat):Int)*wB g (?QA) else 0) ys.length
def Sy(xs ys:LLInt)[?tW]:bl ?cD k g f=?PS+?a10 g f:=by
 unfold bl vU;rw[qa8,X7]
 congr 1
 . apply Ai ?h2;rw[qa0,qb8 hq,←qa0]
 . apply Ai ?h2;rw[qa0,?fC,qn0,←qa0]
def Ax9[?g]{k:Int}{g f:?R}(h:∀q:Int,q<?w->f q=0):?PS=0:=?ZU q
def tO{φ:?R}[?j2](h:∀f∈fs,φ f=0):?m3=0:=by
 rw[Tb (ψ:=?cM) h]
 induction fs with
 | nil=>rfl
 | cons f fs ih=>show 0-?zH=0;rw[ih ?x3];rfl
def Ae8[?j4]{n:Nat}{k:Int}{g f:?R}(h:?a1B ?k f):vU ys n k g f=0:=?ZU _
def Es.app[?WF](cs':?aO)[?WW]
 (fc:∀y∈ys,?m8->?GR)
 (tol:∀j y,?DH->?m8->∀p,Jc y p=Jg (λc=>?RA*c.h ?hW) cs')
 (og:∀c∈cs',∀q,?fQ->?jC->wB c.g ?jD=0)
 (oh:∀c∈cs',∀q:Int,q<?w->c.h q=0/\c.f q=0)
 (su:∀c∈cs',Sup L' a' c)
 (se:∀c∈cs',?a10 c.g c.f=c.d)
 (ap:cs'.Pairwise λx y=>?a10 x.g y.f=0/\?a10 y.g x.f=0):Es ?cD k L' a' (cs'.map (·.d)++ds):=by
 let ?xK:=h;have get:∀{q:Nat},?GB->ys[q]?=?c (?l2):=λ{q} hq=>?wK
 have gy:∀c∈cs,∀f:?R,?a10 c.g f=0:=λc hc f=>?lS λq hq=>by
  split
  . rename_i hl
    rw[tO λz hz=>?_,qc7];rcases fc _ (qb3 (get hq)) hl z hz with w | w
    . rw[w];exact(?xR).at0
    . exact(?xR).g z w
  . rfl
 have gx:∀c∈cs',∀f:?R,?a2O c.g f:=λc hc f=>?lS λq hq=>by
  split
  . rename_i hl
    rw[og c hc q hq hl,qc7]
  . rfl
 have fx:∀c∈cs',∀g:?R,?a2O g c.f:=λc hc g=>Ax9 λq hq=>(oh c hc q hq).2;apply#[cs'++cs,by rw[qb0,e],?wN,?k9]
 . rw[X9];by_cases hq':?fQ
   . rw[qa0,qb8 hq',←qa0]at hk ⊢;rw[U1 λc hc=>by rw[(oh c hc ?aX ?d).1,qc7],qk8];exact hh.told q hq' hk p
   . obtain⟨j,rfl⟩:∃j,q=?D6:=#[q-xs.length,O9m]
     rw[qa8]at hq;rw[qa0,?fC,qn0,←qa0]at hk ⊢;rw[tol j _ (get ?d) hk p,U1 (cs:=cs) λc hc=>by rw[(?xR).h _ ?d,qc7],ql3]
 . rw[Sy];rcases ?j5 hc with z | z
   . rw[gx c z,qk8];exact se c z
   . rw[gy c z,ql3];exact ?oR c z
 . apply ?GI #[ap.imp_of_mem ?EA,hh.apart.imp_of_mem ?EA,λx hx y hy=>?_]
   . rw[Sy,Sy,gx x hx,gx y hy,z.1,z.2];exact ?fB
   . rw[Sy,Sy,gy x hx,gy y hy,z.1,z.2];exact ?fB
   . rw[Sy,Sy,gx x hx,fx x hx,gy y hy,Ae8 λq hq=>(s y hy).f q ?d];exact ?fB
 . rcases ?j5 hc with z | z
   . exact su c z
   . have:=s c z;apply#[λp hp=>this.g p O9m,?_,λp hp=>this.h p O9m,λp hp=>this.f p O9m];rcases ha' with rfl | w
     . exact this.at0
     . exact this.g _ w
def Es.none[?WF][?WW]
 (fc:∀y∈ys,?m8->(?GR)/\?TN):Es ?cD k L' a' ds :=
 h.app [] hL hL' ha' (λy hy z=>(fc y hy z).1) (λj y hy z p=>(fc y (qb3 hy) z).2 p) ?rO ?rO ?rO ?rO .nil
abbrev Cy(b:Int)[?n0]:?e:=(?YD 1)::(?YD ?L)::(?gU)::tl
abbrev XS(b s:Int)(n:Nat)(tl:?e):Fd:=#[n,λp=>?rJ-?j7,λp=>if p=b then n else ?JT,λq=>if q=s then 1 else 0,λq=>if s<=q/\q<s+n then 1 else 0]
abbrev dC(b s:Int)[?n0]:Fd:=#[1,λp=>?oS,λp=>if p=b\/(b+i<p/\p<b+n) then -1 else 0,λq=>if q=s+i then 1 else if q=s then -1 else 0,λq=>if q=s+i then 1 else 0]
def JU[?aC](b:Int)(n:Nat)[?n9](h:?GX=0)(m:Nat):wB φ (?a0B m)=φ (?YD 1)-φ (?YD ?dI)+φ (?iE):=by
 show φ _-(φ _-(φ _-?GX))=_;rw[h];omega
def kJ{n:Nat}(h:0<n):1%n=if n=1 then 0 else 1:=by
 split
 . rename_i e;subst e;rfl
 . exact Nat.mod_eq_of_lt O9m
def Tz{n m:Nat}(h:m<n):?dI%n=if m+1=n then 0 else m+1:=by
 split
 . rename_i e;rw[e,Nat.mod_self]
 . exact Nat.mod_eq_of_lt O9m
def yN{b s:Int}{n:Nat}[?n9][?tS]{m:Nat}(hm:m<n):wB (XS b s n tl).g (?a0B m)=if m=0 then ?k else 0:=by
 have t0:wB (XS b s n tl).g tl=0:=tO λf hf=>by
  ext W9;have:=ht f hf;ext eY
 rw[?KH,kJ ?d,Tz hm];show(if b+_=b then ?k else if ?YV b then b+_-b else 0)-(if b+_=b then ?k else if ?YV b then b+_-b else 0)+(if b+_=b then ?k else if ?YV b then b+_-b else 0)=_;by_cases n1:n=1
 . subst n1;have:m=0:=O9m
   subst this;simp
 . rw[?h n1]
   repeat' split
   all_goals omega
def TN{b s:Int}{n:Nat}[?n9][?tS]{i m:Nat}(hi:0<i)(hin:i<n)(hm:m<n):wB (dC b s n tl i).g (?a0B m)=if m=i then 1 else if m=0 then -1 else 0:=by
 have t0:wB (dC b s n tl i).g tl=0:=tO λf hf=>by
  show(if f=b\/(b+i<f/\f<b+n) then ?iV else 0)=0;have:=ht f hf;ext dT
 rw[?KH,kJ ?d,Tz hm];show(if ?a2L b then ?iV else 0)-(if ?a2L b then ?iV else 0)+(if ?a2L b then ?iV else 0)=_;rw[?h (show ¬n=1 by omega)];rw[?h (show ¬(b+?kJ=b\/(?gU<b+?kJ/\b+?kJ<b+n)) by omega)];by_cases m0:m=0
 . subst m0;rw[?h (show ¬0+1=n by omega),?l,?Z,?l,?r];rfl
 . by_cases mi:m=i
   . subst mi;rw[?r,?h (show ¬(?iE=b\/(?iE<?iE/\?iE<b+n)) by omega)];by_cases ml:m+1=n
     . rw[?q ml,?Z];rfl
     . rw[?h ml,?Z];rfl
   . rw[?h mi,?h m0];by_cases ml:m+1=n
     . rw[?q ml,?Z,?Z];rfl
     . rw[?h ml];by_cases lt:m<i
       . ext eY;rfl
       . rw[?Z,?Z];rfl
def FQ(b:Int)[?n0](p:Int):?oS=?rJ-Oq (?YD ?L) p+Oq (?gU) p-?j7:=by
 rw[Zc,Zc];show ?sQ-(?sQ-(?sQ-wB _ tl))=_;omega
def RG(b:Int){n:Nat}(tl:?e)(p:Int)[?cI]:?YQ (λi=>?oS)=n*(?rJ-?j7):=by
 have A86:∀j,j<n->Aj (λi=>?oS) j=j*(?rJ-?j7)-Oq (b+?aI) p+Oq b p:=λj=>by
  induction j with
  | zero=>intro _;show ?bJ=?iW*_-Oq (b+0) p+Oq b p;rw[ql3];ext bN
  | succ j ih =>
    intro hj;show Aj _ j+?FL=_;rw[ih ?d,FQ,?PR,?l];rw[?NF,qr9];omega
 obtain⟨j,rfl⟩:∃j,n=j+1:=?OF
 show Aj _ j+Jc (Cy b ?a0 tl j) p=_;rw[A86 j ?d,FQ,?PR,?r];rw[?NF,qr9,show b+?iW=b by omega];omega
def Es.disc[?g]{k a a' b:Int}{L L' n:Nat}{tl ds:?e}(h:?q7)[?cI](hL:?DI)(hL':xs.length+n<=L')(ha':?IX)(hb:?fK<=b/\b+n<=?w)(hab:a'<b\/b+n<=a')
 (ox:∀q,?fQ->?jC->∀f∈?kN,?UF)
 [?tS] (ht2:∀f∈tl,?fK<=f) (hk:Bs (?A1)=k):Es (xs++?e7) k L' a' (?k::(?V5++ds)):=by
 have dl:∀i,?ZD ?i2 ?A1:=λi=>rfl;have ysl:?ZD ?e7 n:=by rw[qa2,qd9]
 have get:∀j y,(?e7)[j]?=?c y->j<n/\y=?jJ:=λj y e=>by
  have hj:=?xO;rw[ysl]at hj;rw[qb4,qj4 hj]at e;exact#[hj,(qb9 e).symm]
 have bn:∀g f:?R,vU (?e7) ?D k g f=?YQ (λj=>f (?w+j)*?GN):=λg f=>by
  unfold vU;rw[ysl];apply Ai ?jY;have e:(?e7).getD j []=?jJ:=by rw[qa0,qb4,qj4 hj];rfl
  rw[e,?q (by rw[dl];exact hk),show ?hW=?w+j by omega]
 have mem:∀c∈?kO::?yR (?yS),c=?kO\/∃i,0<i/\i<n/\c=?QF:=λc hc=>by
  rcases ?fI hc with z | z
  . exact ?i z
  . let ?iC:=?kW;have:=?eU;exact ?o #[i+1,O9m,O9m,rfl]
 have key:=h.app (ys:=?e7) (a':=a') (L':=L') (?MO) hL O9m ha' (λy hy _ f hf=>by
  let ?iC:=?AJ;have:=?eU;ext WL;right;ext iY
  . omega
  ext iY
  . omega
  ext iY
  . omega
  . exact ht2 f hf) (λj y hy _ p=>by
  let#[hj,rfl]:=get j y hy;show ?FL=(?kO).r p*n*(if ?hW=?w then 1 else 0)+Jg _ (?yR ?yS);rw[eL]
  have e:∀i,i<n-1->(?kQ).r p*(?kQ).d*(?kQ).h ?hW=?w8*(if ?r1 then 1 else if j=0 then -1 else 0):=λi _=>by
   show ?w8*1*(if ?hW=?w+?DS then 1 else if ?hW=?w then -1 else 0)=_;rw[qk5]
   congr 1
   by_cases z:?r1
   . ext mY
   . ext mX;by_cases z:j=0
     . ext mY
     . ext mX
  rw[?i6];by_cases j0:j=0
  . subst j0;rw[?Z,Ai (g:=λi=>-1*?w8) λi _=>by rw[?l,?r,qf1],Ba];have fs:=RG b tl p hn;obtain⟨m,rfl⟩:∃m,n=m+1:=?OF
    rw[Lat.sumN_fst]at fs;show _=?DN*_*1+_;rw[qp1,qk5,qf1 ?DN,←fs];omega
  . rw[?l,qc7,qk8,?jN (j:=j-1) ?d λi _ ne=>by rw[?l,?h j0,qc7]];rw[?Z,qk5,show j-1+1=j by omega]) (λc hc q hq hl=>by
  apply tO ?kZ;have:=ox q hq hl f hf;ext tL
  . ext W9;ext eY
  . exact ?fF) (λc hc q hq=>by
  ext tL
  . exact#[?fF,?fF]
  . apply#[?_,?fF];show ?ZA q q;ext eY) (λc hc=>by
  ext tL
  . apply#[?aR,?_,?nG,?nG]
    . show(if p=b then ?k else ?JT)=0;ext eY
    . show(if a'=b then ?k else if b<a'/\a'<b+n then a'-b else 0)=0;ext eY
  . apply#[?nG,?fF,?aR,?nG];show ?ZA p p;ext eY) (λc hc=>by
  rw[bn];ext tL
  . rw[?jN hn λj hj ne=>by rw[yN ht hj,?eM,qc7],yN ht hn,?r];show(if ?w<=?w+?iW/\?w+?iW<?w+n then ?M else 0)*n=n;ext CD
  . rw[?jN hi λj hj ne=>by
     ext VZ,TN ht i0 hi hi,?r]
    show ?a17 1=1;rw[?r];rfl) (by
  have fi:∀i,i<n->∀g:?R,?YQ (λj=>(?QF).f (?w+j)*?GN)=wB g (?i2):=λi hi g=>by
   rw[?jN hi λj hj ne=>by
    ext VZ]
   show ?a17 _=_;ext n3
  apply qi6.mpr #[?k9,qt4.mpr (List.pairwise_lt_range.imp_of_mem λ{x y} hx hy hxy=>?_)]
  . let ?iC:=?b5 hc;have hi':=?eU;rw[bn,bn,fi ?L ?d,yN ht ?d,?l];apply#[rfl,?_]
    have e:∀j,j<n->(?kO).f (?w+j)*wB (?kQ).g (?jJ)=(if ?r1 then 1 else 0)*(λ_:Nat=>?M) j+(if j=0 then 1 else 0)*(λ_:Nat=>?iV) j:=λj hj=>by
     rw[TN ht ?d ?d hj];show(if ?w<=?yK/\?yK<?w+n then ?M else 0)*_=_;ext CD;by_cases z:?r1
     . rw[?a8,?a8,?l];rfl
     . ext tV;by_cases z:j=0
       . rw[?a8,?a8];rfl
       . ext tV;rfl
    rw[?i6,Cf,Cu,Cu,?Z,?q hn];rfl
  . have hx':=?fA hx;have hy':=?fA hy;rw[bn,bn,fi (y+1) ?d,fi (x+1) ?d,?HH,?HH];rw[?l,?l,?l,?l];exact ?fB)
 have e:(?MO).map (·.d)=?k::?V5:=by
  rw[qd3,qm1]
  congr 1
  apply List.eq_replicate_iff.mpr #[?hC,?uV];let ?AI:=?b5 hx;rfl
 rw[e]at key;exact key
def tV{F:?s}{t n:Nat}(h:t+1<n):?YQ (λq=>F (?q8))=?YQ F:=by
 apply Lat.sumN_pair (p:=t) (q:=t+1) O9m h O9m (λk _ h1 h2=>?_) ?_
 . show F (?lK)=F k;unfold Wy;rw[?mD,?oI]
 . show F (Wy t t)+F (Wy t ?rK)=F t+F ?rK;unfold Wy;rw[?r,?l,?r,Int.add_comm]
def CA(t x:Int):?GT=x:=by
 unfold S4
 repeat' split
 all_goals omega
def Aa6(t x p:Int):?E6=?VM:=by
 unfold Oq;by_cases h:S4 t x=p
 . rw[?g0,?q (by rw[←h,CA])]
 . rw[?cF,?h λz=>h (by rw[z,CA])]
def X4[?gK](q:Nat):?yI=(?kL (?q8) []).map ?lP:=by
 rw[qa0,U0 h,qa0];cases ys[?q8]?<;>rfl
abbrev swC(t:Int)(c:Fd):Fd:=#[c.d,λp=>c.r ?hL,λp=>c.g ?hL,λq=>c.h (S4 t q),λq=>c.f (S4 t q)]
def sD[?gK][?tW]:bl ?iI k (λp=>g ?hL) (λq=>f (S4 t q))=bl ys k g f:=by
 unfold bl;rw[AK h,←tV (F:=λq=>if ?YA ?l2=k then f ?aX*wB g (?l2) else 0) h];apply Ai λq _=>?_;show(if ?YA ?yI=k then f (S4 t ?aX)*wB (λp=>g ?hL) (?yI) else 0)=_;rw[X4 h,qa2,HG,Xi];rw[Tb (φ:=λx=>g (?GT)) (ψ:=g) λx _=>by rw[CA]]
def JX[?j3](m:Fd->Fd):∀cs:?aO,Jg F (?cN m)=Jg (λc=>F (m c)) cs
 | []=>rfl
 | ?fW=>by show F (m c)+_=F (m c)+_;rw[JX F m cs]
def Xf.swap[?j4]{k:Int}{cs:?aO}{t:Nat}(h:?KU)(ht:?pW):Xf ?iI k (?HJ):=by
 apply ?wN
 . rw[AK ht]at hq;rw[X4 ht,qa2]at hk
   have hq':?q8<ys.length:=by
    unfold Wy
    repeat' split
    all_goals omega
   rw[X4 ht,Zc,HG,Tb (φ:=λx=>?E6) (ψ:=λx=>?VM) λx _=>Aa6 ..,←Zc,?sV _ hq' hk,JX];apply X8 λc _=>?_;show _=c.r ?hL*c.d*c.h (S4 t ?aX);rw[Xi]
 . let#[c',hc',rfl]:=?b5 hc;exact(sD ht k c'.g c'.f).trans (?yY c' hc')
 . exact qt4.mpr (h.apart.imp λz=>#[?UA z.1,?UA z.2])
abbrev cL(k:Int)[?O]:Nat:=(xs.filter ?RU).length
def kH[?N]:∀n,n<=xs.length->?mO=cL k (?oT n)
 | 0,_=>rfl
 | n+1,h=>by
   have e:?oT ?C=?oT n++[?H2]:=by rw[qf8,?g5,qa0,?g5];rfl
   have ih:=kH xs k n O9m;unfold cL at ih ⊢;rw[e,qg3,qa8,←ih];by_cases z:?lG
   . rw[Y0 z,qa8,qt9 (?rC)];rfl
   . rw[CM z,qu0 (?rC)];rfl
def FE[?N]:?dQ=cL k xs:=by
 show ?ZD ?EE _;rw[kH xs k _ ?I,qe7]
def RZ(k:Int)(xs ys:LLInt):cL k ?cD=cL k xs+?oN:=by
 unfold cL;rw[qg3,qa8]
def rZ{k:Int}[?j4](h:∀y∈ys,?m8):?oN=ys.length:=by
 unfold cL;rw[?yU λy hy=>qe1 (h y hy)]
def xU{k:Int}[?j4](h:?MP):?oN=0:=by
 unfold cL;rw[?s4 λy hy=>by simpa using h y hy];rfl
def tU[?gK](k:Int):cL k ?iI=?oN:=by
 unfold cL K9;rw[qv4,qa2]
 have e1:((λx:?e=>?j (Bs x.length=k)) ∘ λp=>?KM ?lP p)=?RU:=by
  funext x
  show ?j (Bs (?KM ?lP x).length=k)=_;rw[qa2]
 rw[e1]
 have e:ys=?QR:=by
  rw[qa0,qa1 (?XT t ys.length),qa0,?g5];show ys=?qP++(ys[t]::ys[t+1]::ys.drop (t+1+1))
  rw[←qt0 h,←qt0 (?XT t ys.length),List.take_append_drop]
 have p:(?oJ).Perm ys:=by
  apply List.Perm.trans (l₂:=?QR) ?_ (by rw[←e]);unfold X5;rw[qh8];exact(List.Perm.swap ..).append_left _
 exact(p.filter _).length_eq
def Turned.hand[?BT]{k:Int}{ds:?e}(hh:∃cs:?aO,?cN (·.d)=ds/\?o1):∃cs:?aO,?cN (·.d)=ds/\?KU:=by
 induction h with
 | refl=>exact hh
 | step t h1 h2 h3 ih =>
   let#[cs,e,c]:=ih;exact#[?HJ,by rw[qm1,←e];rfl,c.swap h2]
def Turned.cL[?BT](k:Int):C7 ys k=?dQ:=by
 rw[FE,FE]
 induction h with
 | refl=>rfl
 | step t h1 h2 h3 ih=>exact(tU h2 k).trans ih
def Og[?g]{y c0:?e}{e:Int}(hy:y.length=0\/y.length=2\/y.length=3\/y.length=4)(h:∀f∈y,∃m:Nat,f=?aV/\?xH=?c c0)(hl:lev c0+1=lev y\/y=[])(hc:∀x∈c0,x=e):JP xs y:=by
 apply#[hy,?kZ,?kZ,λh3 i j f g q r hij hj hi hq hr=>?_]
 . let#[m,rfl,_]:=h f hf;omega
 . let ?mK:=h f hf;apply#[c0,hm,?_];rcases hl with z | z
   . exact z
   . rw[z]at hf;exact ?tA
 . let ?mK:=h f (qb3 hj);let#[m',rfl,hm']:=h g (qb3 hi);rw[qd6]at hq hr;rw[hm]at hq;rw[hm']at hr;cases hq;cases hr;have hjl:=?TL
   have cl:c0.length+1=y.length:=by
    rcases hl with z | z
    . unfold lev at z;omega
    . rw[z]at h3;simp at h3
   have at_:∀i,i<c0.length->?a1W c0 e:=λi hi=>by
    rw[?r3,hc _ (qf0 hi)]
   rw[at_ i ?d,at_ (j-1) ?d]
def lY[?u6](h:?eE)(hf:?P1):Ca ?cD:=λk p hk=>by
 by_cases hlt:?a0J k
 . rw[qb8 hlt]at hk;rw[List.take_append_of_le_length ?d];exact h k p hk
 . rw[?fC]at hk;rw[List.take_append,ql5 ?d];exact hf _ p hk
def rF[?g][?b7][?CH]:∀f∈?kN,0<=f/\f<?w:=λf hf=>by
 ext WH
 have F:=?QH;let#[p,hp,_]:=?sD;ext WZ
 . omega
 . cases hp
structure L82[?O](a c0 c1 c2 c3:Int)(low high:?e):Prop where
 sh:?eE
 pt:?DX
 st:∃D0 D1 D2:Nat,Il xs 1 ?D a [] D0/\Il xs 2 ?D a low D1/\Il xs 3 ?D a high D2/\c0+D0=?g7/\c1+D0+D1=?ZP 1/\c2+D1+D2=?ZP 2/\c3+D2=?ZP 3
def bB:L82 [[]] 0 1 0 0 0 [] []:=by
 have st:∀k:Int,k≠0->Il [[]] k 1 0 [] 0:=λk hk=>#[0,#[[],rfl,#[λq hq z=>?Q ?dO (by
  have:q=0:=by simp at hq;exact hq
  subst this;exact hk),?wL,.nil],?wL],rfl,.nil,λt ht=>(?PD)]
 apply#[λk p hk=>?_,#[0,rfl,rfl],0,0,0,st 1 ?Y,st 2 ?Y,st 3 ?Y,?_,?_,?_,?_]
 . have:p=[]:=by simpa using qb3 hk
   subst this;exact ?SO
 all_goals (rw[FE];rfl)
def L82.put[?u6]{a a' c0 c1 c2 c3 e0 e1 e2 e3:Int}{low high low' XM:?e}[?C2](m0 m1 m2:Nat)(fit:?P1)(pt:∃m:Nat,a'=?aV/\?GK)
 (s1:∀D,?a19 1 []->Il ?cD 1 ?lO a' [] (D+m0)) (s2:∀D,?a19 2 low->Il ?cD 2 ?lO a' low' (D+m1)) (s3:∀D,?a19 3 high->Il ?cD 3 ?lO a' XM (D+m2))
 (n0:e0+m0=cL 0 ys) (n1:e1+m0+m1=cL 1 ys) (n2:e2+m1+m2=cL 2 ys) (n3:e3+m2=cL 3 ys):L82 ?cD a' (c0+e0) (c1+e1) (c2+e2) (c3+e3) low' XM:=by
 let ?KX:=h.st;rw[FE]at u0 u1 u2 u3;apply#[lY h.sh fit,pt,D0+m0,D1+m1,D2+m2,s1 _ t1,s2 _ t2,s3 _ t3,?_,?_,?_,?_]
 all_goals (rw[FE,RZ];omega)
def Il.none[?W2]
 (fc:∀y∈ys,?m8->(∀f∈y,f=a\/?w<=f)/\?TN):?CR:=by
 apply h.ones 0 λds hd=>?_;have hl:?a0Q ?lO:=?SQ
 exact hd.none ?I hl ha' fc
def Il.no[?W2](fc:?MP):?CR:=h.none ha' λy hy z=>?Q z (fc y hy)
def Il.disc{xs ps:LLInt}{k a b:Int}{n:Nat}{row tl:?e}{D:Nat}(h:?IS)[?b7](ha:a<?w)[?cI](hps:∀y∈ps,Bs y.length≠k)(hb:?w<=b/\b+n<=((xs++ps).length:Int))
 [?tS] (ht2:∀f∈tl,?w<=f) (hk:Bs (?A1)=k):Il (xs++(ps++?e7)) k ?P2 a (BC row n) (D+n):=by
 ext tU;have h5:Es (xs++ps) k ?D a ?nM:=h1.none ?I ?I ?b3 λy hy z=>?Q z (hps y hy)
 have h6:=h5.disc (a':=a) (b:=b) (tl:=tl) (L':=?P2) hn (?SQ) (by simp only[qa8,qa2,qd9];omega) ?b3 hb (?i O9m) (λq hq hl f hf=>by
  left;rw[qa8]at hq;by_cases hq':?fQ
  . rw[qa0,qb8 hq',←qa0]at hf;have:=(rF hs hq' f hf).2;omega
  . rw[qa0,?fC,?oB]at hl;exact ?Q hl (hps _ (?fT))) ht ht2 hk
 rw[qh8]at h6;have h7:=Il.put (D:=D+?kM) (show ?bJ<?k by omega) #[m+?kM,h6.perm (?uF _ ?_),O9m,h3,h4]
 . rw[show D+n=D+?kM+1 by omega];exact h7
 . ext WS
def vY[?u6]{i j:Nat}{c:?e}(hij:i<j)(h:ys[i]?=?hQ):(xs++?o5 j)[xs.length+i]?=?hQ:=by
 rw[?fC,qn0,qi7,?q hij,h]
def pL[?g]{m:Nat}{c:?e}(h:?xH=?hQ)(zs:LLInt):?J7[m]?=?hQ:=by
 rw[qb8 (?bI h).1,h]
def Ap6[?g][?BS]:a<?w:=by
 let ?mK:=h;have:=(?bI hm).1;omega
def zB[?g][?BS](ys:LLInt):∃m:Nat,a=?aV/\?GK:=by
 let ?mK:=h;exact#[m,rfl,pL hm ys]
def Ai7(zs:LLInt):JP zs []:=?SO
def RD[?g][?BS](zs:LLInt):JP ?J7 ?eL:=by
 let ?mK:=h;apply Og (c0:=[]) (e:=0) (?o ?b3) (?kZ) ?b3 ?I9
 have:f=?aV:=?PZ
 exact#[m,?aG,pL hm zs]
def fQ(a p:Int):Jc ?eL p=0:=by rw[fS];omega
def mL{a:Int}{L:Nat}:(∀f∈?eL,?RC)/\∀p,Jc ?eL p=0:=#[λf hf=>?i (?PZ),fQ a]
def rH{b:Int}{n i:Nat}[?n9][?cI](hi:i<n):∀f∈?i2,(∃m:Nat,m<n/\f=?iE)\/f∈tl:=λf hf=>by
 ext WL;ext iY
 . exact ?i #[_,m1,rfl]
 ext iY
 . exact ?i #[_,m2,rfl]
 ext iY
 . exact ?i #[_,hi,rfl]
 . exact ?o hf
section
variable[?g][?X8]
abbrev Os(a b:Int)(n:Nat):LLInt:=?dD n ?eL++?rQ (Cy b n [])
def BN{a b:Int}{n j:Nat}{y:?e}(h:(?PA)[j]?=?c y):(j<n/\y=?eL)\/(n<=j/\j-n<n/\y=Cy b n [] (j-n)):=by
 unfold Os at h;by_cases hj:j<n
 . rw[qb8 (by rw[qc5];exact hj),ql1,?q hj]at h;exact ?i #[hj,?CY]
 . rw[qb5 (by rw[qc5];omega),qc5,qb4]at h
   have hl:j-n<n:=by
    rcases qg4 (j-n) n with z | z
    . exact z
    . rw[qg1 (by rw[qd9];exact z)]at h;cases h
   rw[qj4 hl]at h;exact ?o #[O9m,hl,?CY]
def L82.disc[?C2]{n:Nat}[?cI]:L82 (xs++?xW) a (c0+0) (c1+0) (c2+0) (c3+0) (BC low n) high:=by
 have al:=Ap6 h.pt
 have mem:∀y∈?xW,y=?eL\/∃i,i<n/\y=Cy ?D n [] i:=λy hy=>by
  let#[j,hj]:=qf7 hy;rcases BN hj with z | z
  . exact ?i z.2
  . exact ?o #[_,z.2]
 have cl:∀k,cL k (?xW)=(if k=1 then n else 0)+(if k=2 then n else 0):=λk=>by
  unfold Os;rw[RZ]
  congr 1
  . split
    . rename_i e;rw[rZ λy hy=>by rw[?uN,e];rfl,qc5]
    . rename_i e;exact xU λy hy z=>e (by rw[?uN]at z;exact z.symm)
  . split
    . rename_i e;rw[rZ λy hy=>by let ?AI:=?AJ;rw[e];rfl,qa2,qd9]
    . rename_i e;exact xU λy hy z=>e (by let ?AI:=?AJ;exact z.symm)
 apply h.put 0 n 0 (λj y hy=>?_) (zB h.pt _) (λD s=>?_) (λD s=>?_) (λD s=>?_) (by rw[cl];rfl) (by rw[cl];simp) (by rw[cl];simp) (by rw[cl];rfl)
 . rcases BN hy with⟨hj,rfl⟩|⟨hj,hl,rfl⟩
   . exact RD h.pt _
   . apply Og (c0:=?eL) (e:=a) (?o (?o ?b3)) (?kZ) ?b3 λx hx=>by simpa using hx
     rcases rH hn hl f hf with⟨m,hm,rfl⟩ | z
     . apply#[xs.length+m,O9m,vY O9m ?_];unfold Os;rw[qb8 (by rw[qc5];exact hm),ql1,?q hm]
     . exact nomatch z
 . apply s.none ?b3 λy hy z=>?_;rcases ?ER with rfl|⟨i,_,rfl⟩
   . exact mL
   . exact ?Q z (by show Bs 3≠1;decide)
 . unfold Os;apply s.disc h.sh al hn (?V8) ?_ (λf hf=>?tA) (λf hf=>?tA) rfl
   . rw[?uN];show Bs 2≠2;decide
   . rw[qa8,qc5];omega
 . apply s.no ?b3 ?V8;rcases ?ER with rfl|⟨i,_,rfl⟩
   . show Bs 2≠3;decide
   . show Bs 3≠3;decide
universe e9
def L82.told[?u6]{os:?e}[?X8][?C2](t:?xZ)[?d3](tie:∃z L G,?ZQ ys 4){k:Nat}(hk:k<4)[?bF][?CM] :
 ?u9=[c0,c1,c2,c3].getD k 0/\?dC=[[],low,high,[]].getD k []:=by
 let ?KX:=h.st;let#[d0,e0,p0,q0,l0,f0]:=t1.told;let#[d1,e1,p1,q1,l1,f1]:=t2.told;let#[d2,e2,p2,q2,l2,f2]:=t3.told;have sh:=t.shape h.sh
 have no4:∀q,?GB->?YA ?l2≠4:=λq hq=>by
  have:=(sh q (?l2) (?wK)).cnt;unfold Bs;ext f6
 let ?lD:=oY tie sh (λj=>if j=0 then d0 else if j=1 then d1 else if j=2 then d2 else []) (λj hj=>by
  match j,hj with
  | 0,_=>exact#[?xI e0,p0,q0]
  | 1,_=>exact#[?xI e1,p1,q1]
  | 2,_=>exact#[?xI e2,p2,q2]
  | 3,_=>exact#[#[[],rfl,#[λq hq z=>?Q z (no4 q hq),?wL,.nil]],λd hd=>(nomatch hd),.nil]) hk hp
 rw[t.cL]at h1
 match k,hk with
 | 0,_ =>
   have h1:?fJ+0+d0.length=?g7:=h1;have h2:?dC=d0.filter ?gA:=h2;rw[h2,f0];apply ?t8;show _=c0;omega
 | 1,_ =>
   have h1:?fJ+d0.length+d1.length=?ZP 1:=h1;have h2:?dC=d1.filter ?gA:=h2;rw[h2,f1];apply ?t8;show _=c1;omega
 | 2,_ =>
   have h1:?fJ+d1.length+d2.length=?ZP 2:=h1;have h2:?dC=d2.filter ?gA:=h2;rw[h2,f2];apply ?t8;show _=c2;omega
 | 3,_ =>
   have h1:?fJ+d2.length+0=?ZP 3:=h1;have h2:?dC=([]:?e).filter ?gA:=h2;rw[h2];apply ?t8;show _=c3;omega
universe Hb
namespace L2
open PySem PySem.Spec PyProof.Rows
universe L2
namespace L2
open PySem PySem.Spec PyProof.Rows PySem.SeqAt
section
variable{X:Cx}
section
variable{o e:Expr}[?f3]{to:TE}{t:TA}{name:Str}{apos cpos:Pos}{id:String}{r:V->?x->?a2B Hp VK}
universe e9
universe e9
universe L2
namespace L2
open PySem PySem.Spec PyProof.Rows
def Dj{X:Cx}{e:Expr}[?f3]{te:TE}{t:TA}(ha:?EC)(hr:?O7)(hs:?BB (e::es) ?h1=(?nK,eval e ?h1)::?BB es ?h1:=by rfl):PAw X (e::es) (WN te t):=#[Aa ha.h hr.h hs]
def FD{X:Cx}[?f3]{k:Nat}[?XK]:PEw X (.Tuple es k pos) (Am5 t):=#[Fq h.h]
structure Ay8(X:Cx)(ss:?QY)(t:TS):Prop where
 h:HC X ss t
def mC{X:Cx}{st:Stmt}{t u:TS}{i:Nat}{x:Str}{e:Expr}{te:TE}{pos' pos:Pos}{rest:?QY}(h1:PS X st t)(hN:X.N.Nodup)(hi:?a1W X.N x)(hx:XW X.env.scope x)(ha:?EC)(hr:HC X rest u)
 (hs:swapsWith e (?c (?QQ)) pos.line ?h1=pure ?nK:=by kernel_rfl) (hf:X.fn x=true\/X.env.scope.names.lookup x=?c .local:=by ac_rfl) :
 Ay8 X (st::.Assign [?QQ] e pos::rest) (Aq t (Aq (OY te (Z6 i)) u)):=#[Ag h1 (Ag (PL hN hi hx ha.h hs hf) hr)]
universe L2
namespace Hb
open PySem L2
def NG(a b:Int)(n:Nat):(?PA).length=n+n:=by unfold Os;rw[qa8,qc5,qa2,qd9]
abbrev OV(ps:LLInt)(b:Int)[?n0]:LLInt:=ps++?S3 (Cy b n tl)
def oV(ps:LLInt)(b:Int)[?n0]:OV ps b n tl ?L=OV ps b n tl i++[?i2]:=by
 unfold OV;rw[qg6,qb0,qh8];rfl
def RH{b:Int}{n i:Nat}[?n9][?cI]:?i2=(b+1%?k)::(b+((0+?P)+1)%?k)::(b+(0+?P))::tl:=by
 unfold Cy;rw[qk8];rfl
abbrev iV[?u1]:Hp:=?JK
def VF[?u1]:iV H d d=none:=?r
def bH[?u1]:?H ?KT H:=λc o e=>by
 unfold iV at e;split at e
 . cases e
 . exact e
def EZ[?V]{H:Hp}{d:Addr}{ys:?x}(hd:H d=?sZ):?a0W ?KT
 | us,[],h=>h
 | us,x::xs,h=>by
   let ?PP:=h;apply#[v,vs,e,?_,EZ hd hr];let ?EF:=TI.sq hv;apply ?QN;rcases sq with(h|⟨o,h⟩) | h
   . apply ?i (?i ?_);ext WG
   . apply ?a14 o ?_;ext WG
   . exact ?iL
section
variable[?F]
universe e9
universe Hb
namespace Lat
open Hb
section
variable[?X7][?f7]
universe e9
universe Lat
namespace Hb
open PySem L2
def Z5(n:Int):∀(ms:Ms) (k:Int),Br ?o4 k=n*?b8:=λms k=>by
 unfold timesI;split
 . rename_i h;rw[h,qg2];rfl
 . induction ms with
   | nil=>rw[qv3,Na,qc7]
   | cons p ms ih =>
     rw[qd3,G6,G6,ih];show(if ?eR then n*p.2 else _)=_;split<;>rfl
def ZT{l:?e}(h:l.Nodup){i j:Nat}(hi:?EX)(hj:j<l.length)(e:l[i]=l[j]):i=j:=by
 have h1:=?v3 h;rcases qm5 i j with q | q | q
 . exact ?Q e (h1 i j hi hj q)
 . exact q
 . exact ?Q ?i1 (h1 j i hj hi q)
def sumN_cut[?d5](a:Nat):?SD
 | 0=>by show ?tI=?tI+0;rw[ql3]
 | b+1=>by
   show ?wG+f (a+b)=_+(_+f (a+b))
   rw[?jE f a b,qx3]
section
variable[?g][?tK]
universe e9
def QU{ms:Ms}{k v x:Int}(h:x∈(?kK).map (·.1)):x∈?a2 (·.1)\/x=k:=by
 by_cases e:x=k
 . exact ?o e
 . apply ?i ?_;let ?v4:=?o9;unfold putI at hp;split at hp
   . ext CC;apply ?wQ #[q,hq,?_];split<;>rfl
   . ext C6
     . exact qk4 h
     . exact ?Q (by rw[?h4 h]) e
section
variable[?g][?tK]
universe e9
def uH[?g]{k:Int}{a j:Nat}(ha:a<?dQ)(hj:j<?dQ)(h:?yM a 0=?sE):a=j:=by
 rw[qa0,qa0,qa1 ha,?rS]at h;exact ZT (Id xs k) ha hj h
def ZC[?g]{k q:Int}(h:q∈?b4):∃j,j<?dQ/\?sE=q:=by
 let ?MR:=qj3 h;exact#[j,hj,by rw[qa0,?rS,ej];rfl]
def oS[?g]{k:Int}[?aC]:∀{c:Ms},nd c->(∀p∈c,?uS)->?a07 c=?Z1 c
 | [],_,_=>by
   rw[BX];exact(?lS λa _=>by rw[Na,qg2]).symm
 | p::c,h,hk=>by
   have hn:p.1 ∉ c.map (·.1):=(?KG).1;have hc:nd c:=(?KG).2;let ?MR:=ZC (hk p ?S)
   have e2:?Z1 (p::c)=Aj (λa=>(if a=j then ?vX else 0)+Br c ?fM*?oC) ?bB:=Ai λa ha=>by
    rw[G6];by_cases z:a=j
    . subst z;rw[ej,?r,?r,Gf hn,qg2,ql3]
    . rw[?b2,?h λy=>z (uH ha hj (y.symm.trans ej.symm)),qk8]
   rw[Iq,oS φ hc ?H3,e2,Cf,?jN hj λa _ ne=>?eM,?r]
structure ChL[?N](m:Ms):Prop where
 ok:Ip m
 lv:∀q,q ∉ ?b4->Br m q=0
def Ip.val{m:Ms}(h:Ip m)[?u3](hp:p∈m):Br m p.1=p.2:=by unfold Br;rw[T4 h.n hp];rfl
def ChL.key[?g][?u5](h:?U2):∀p∈m,?uS:=λp hp=>by
 by_cases q:?uS
 . exact q
 . exact ?Q ((h.ok.val hp).symm.trans (h.lv _ q)) (?FY)
def ChL.nil[?N]:?Y9 []:=#[Ip.nil,λq _=>Na q]
def BI[?XG](q:Int):Br ?e8 q=Br ms q+Br ns q:=(?U5).2.2.2 q
def ChL.plus[?g]{k:Int}{ms ns:Ms}(h1:?K1)(h2:?Y9 ns):?Y9 ?e8:=#[h1.ok.plus h2.ok,λq hq=>by rw[BI h1.ok h2.ok,h1.lv q hq,h2.lv q hq];rfl]
def ChL.times[?g]{k:Int}{ms:Ms}(h:?K1)(n:Int):?Y9 ?o4:=#[h.ok.times n,λq hq=>by rw[Z5,h.lv q hq,qc7]]
def ChL.wF[?g][?u5](h:?U2)[?aC]:Hb.wF φ m=?Z1 m:=oS φ h.ok.n ?l0
def HF[?g]{k:Int}{g c:Ms}(hg:?Y9 g)(hc:?rI):wI g c=wF (Br g) c:=by
 show wF (Br c) g=_;rw[hg.wF,hc.wF];exact ?a1G ?nL
section
variable[?g]{k:Int}[?iZ][?d2]
universe e9
abbrev liftS[?dU](acc:Ms)(p:?bC):Ms:=?bW acc (?c5 p.2 (?lA))
abbrev M4[?dU](c:Ms):Ms:=c.foldl (liftS lf) []
def iR[?aD]{c:Ms}{i:Nat}[?u3](h:c[i]?=?hP):M4 lf (c.take ?L)=?bW (M4 lf (c.take i)) (?c5 p.2 (?lA)):=by
 unfold M4;rw[qf8,h,qm7];rfl
def Zn[?g]{k:Int}[?aD]:∀{c acc:Ms},(∀p∈c,?Y9 (?lA))->?Y9 acc->?Y9 (c.foldl (liftS lf) acc)
 | [],acc,_,h=>h
 | p::c,acc,hl,h=>Zn (c:=c) (?a2D hl) (h.plus ((hl p ?S).times p.2))
abbrev Ao6(c:Ms)(acc:Ms)(b:BPart):Ms:=if b.1=0 then acc else ?bW acc (?c5 (wF (Br b.2.2.1) c / b.1) b.2.2.2)
abbrev restB(c:Ms)[?b1](acc:Ms):Ms:=?r5 (Ao6 c) acc
section
variable[?g][?tK]
universe e9
universe Hb
namespace L2
open PySem PySem.Spec PyProof.Rows PySem.SeqAt
universe L2
namespace Hb
open PySem L2
section
variable[?g][?tK]
universe e9
def ChL.chain[?g]{k:Int}{c:Ms}(h:?rI):?a0E k c:=by
 unfold chainB;rw[qd8];intro p hp;have:=Di (?l0 p hp);have hz:=?FY;unfold Lg;rw[qc3];apply#[?_,qe1 hz];show(?j (?qT)&&?j (?zU)&&?j (?YA ?mS=k))=true;rw[qe1 this.1,qe1 ?J6,qe1 this.2.2];rfl
def SA[?g][?b7]{k:Int}{c:Ms}(h:?rI)(hz:∀q,Br ?nS q=0):?r6=[]:=by
 have hcb:=f7 hs (k:=k) (ms:=c) λq hq=>let h:=Di (?l0 q hq);#[h.1,?l7,?mI]
 cases e:Bh xs c with
 | nil=>rfl
 | cons r l =>
   have hm:r∈?r6:=by rw[e];exact ?jO
   have h1:=?gI hcb r hm;unfold Lg at h1;rw[qc3]at h1;have h2:=qd5 h1.2;have hn:nd ?nS:=?L1;have h3:Br ?nS r.1=r.2:=by unfold Br;rw[T4 hn hm];rfl
   exact ?Q (h3.symm.trans (hz r.1)) h2
section
variable[?F]
abbrev eN[?d6]:Sp:=λvs H Q _=>wG λ ?cR (O:Hp) ?U ?aA ?SX ?nJ (c:Ms)=>yI ?fV (O a=?mC) (?a0Y O) (?H O H) (O b=none) (?a2P b c) (?rI) (?zQ) ?dM (∀p∈c,ChL xs ?T (?lA)/\∀t∈?lA,?fZ p.2 t.2) (uS H (M4 lf c) Q)
universe e9
section
variable[?F]
universe e9
universe Hb
namespace L2
open PySem PySem.Spec PyProof.Rows
def Pm{X:Cx}[?f3][?XK]:PEw X (.List es pos) (An0 t):=#[F7 h.h]
def Pl{X:Cx}{e:Expr}{t:TE}(h:?TT):PEw X e t:=#[h]
universe L2
namespace Hb
open PySem L2
abbrev bV[?CJ](v:V)(p:BPart):Prop:=∃t a b c,v=?iG/\?a0X t/\?a2P a ?j6/\?a2P b ?eI/\?a2P c ?cJ/\A a/\¬A b
def bV.same[?u2][?c4][?u4](h:?s3)[?cG]:bV A H' v p:=by
 let(?ZH h5):=h;exact#[t,a,b,c,e,?jV,?RM,?T2,?TX,h5]
abbrev Mj[?CJ][?nB][?b1]:Prop:=?NI/\∀(i:Nat) v p,us[i]?=?jF->?wR->?s3
def Mj.same[?u2][?c4][?f8][?bF](h:?m9)[?cG]:Mj A H' us ps:=#[h.1,λi v p e1 e2=>(?RT).same s]
def Mj.get[?u2]{H:Hp}[?f8][?bF](h:?m9){i:Nat}{v:V}(e:us[i]?=?jF):∃p,?wR/\?s3:=by
 have hi:=?xO;have e2:=qa1 (l:=ps) (i:=i) (by rw[←h.1];exact hi);exact#[_,e2,h.2 i v _ e e2]
abbrev Wa[?CJ](lu:?x)(hs:?bY):Prop:=lu.length=hs.length/\∀(i:Nat) v ps,lu[i]?=?jF->hs[i]?=?fS->∃l us,v=?gW/\H l=?bR/\?m9
def Wa.same[?u2][?c4]{lu:?x}{hs:?bY}(h:?xT)[?cG]:Wa A H' lu hs:=#[h.1,λi v p e1 e2=>by
 let#[l,us,e,h1,h2]:=?RT;exact#[l,us,e,?jV,?SK]]
def ChL.bord[?g][?b7][?n4]{k:Int}{c:Ms}(h:ChL xs ?T c):?Y9 ?nS:=by
 have key:∀q∈?r6,q.1∈?b4:=λq hq=>by
  let ?VF:=?FG;let#[p0,p1,p2]:=Di (?l0 p hp);exact GH hs (q:=?iX) O9m p2 q.1 hf
 apply#[#[?L1,Tx xs c _,?h2],?PL]
 . let ?KY:=Di (key q hq);exact ?QM
 . let ?KJ:=?kW;exact hq (key t ht)
def ChL.piece[?g][?n4][?CH]:ChL xs (?m7) ?kA:=by
 apply#[#[(by show List.Nodup [?aX];simp),λp hp=>by rw[?i5];show ?yE;decide,λp hp=>by rw[?i5];show 0<=?aX/\?aX<40;omega],λe he=>Gf λz=>he ?_];have:e=?aX:=?rC
 rw[this];exact Xq O9m O9m (by rw[qd6])
structure JO[?N](p:BPart):Prop where
 od:?i8\/1<p.1
 o30:p.1<1073741824
 c1:?Y9 ?j6
 c2:?Y9 ?eI
 c3:ChL xs ?T ?cJ
 z:?i8->?cJ=[]
 b3:∃j:Nat,j<4/\?a0E ?aI ?cJ
 m1:∀t∈?j6,?bQ
 m2:∀t∈?eI,?bQ
 m3:∀t∈?cJ,?bQ
def JO.o101[?g]{k:Int}{p:BPart}(h:?vF):?R7<2 ^ 101:=by
 have:=h.od;have:=h.o30;exact qb7 (?XT ?R7 1073741824) ?Y
def gH{ms:Ms}{B:Nat}(h:∀t∈ms,?x4<2 ^ B)(k:Int):?G3<2 ^ B:=by
 unfold Br lookI;cases e:ms.find? λp=>decide (p.1=k) with
 | none=>exact Nat.two_pow_pos _
 | some p=>exact h p (List.mem_of_find?_eq_some e)
def Td{x:Int}(h:x.natAbs<?cZ):?IJ:=qb7 h ?Y
def bY{x:Int}(h:x.natAbs<=2):?IJ:=qc2 h ?Y
def oR{ms:Ms}[?XJ]:∀{ns:Ms},(?PI)->?BI<=?IT
 | [],_=>by show(0:Int).natAbs<=_;ext cH
 | p::ns,h=>by
   have ih:=oR hm (ns:=ns) ?oV;show(?tB+?o7).natAbs<=(ns.length+1)*(2*?cZ)
   have h1:(?tB).natAbs<=?cZ*2:=by
    rw[qb6];exact qf5 (qe6 (h p ?S)) (hm p.1)
   have h2:=qf4 (?tB) (?o7);rw[qg0];omega
def OR{ms ns:Ms}[?XJ](h:?PI)(hl:ns.length<=40)(d:Int):?BI<?AX/\?KD<?AX:=by
 have h1:=oR hm h;have h2:?IT<=40*(2*?cZ):=qc0 _ hl;have h3:40*(2*?cZ)<?AX:=?aF
 have h4:?KD<=?BI:=qg7 ..;omega
def Uc[?g][?b7](q:Int)(e:Int):(Br (Bh xs [(q,1)]) e).natAbs<=2:=by
 rw[Qc];by_cases h:?a0J q.toNat
 . apply KJ (U2 hs _ ?_) e;rw[qa0,?g5];exact qf0 h
 . rw[qa0,qg1 ?d];ext cH
def aV(q:Int)(e:Int):(Br [(q,1)] e).natAbs<=2:=by
 have:=gH (ms:=[(q,1)]) (B:=1) (λt ht=>by rw[?h4 ht];show ?AD<2 ^ 1;decide) e;omega
abbrev jO(ns:?e):Prop:=(∀n∈ns,0<=n)/\∀p∈ns.zip (ns.drop 1),p.1∣p.2
abbrev dP:BPart:=(0,[],[],[])
abbrev Rb[?N][?b1](i:Nat):Bool :=
 ?j ((Bh xs ?V0).length=0)&&?q9 (Bh xs (?k7).2.2.2) (?c5 (?k7).1 ?V0)&&(?LQ λj=>?j (wI ?EL (ps.getD j dP).2.1=?vR))&&(?zO).all λq=>?j ((?k7).1∣wI ?EL (Bh xs [(q,1)]))
abbrev F8[?N][?b1]:Bool:=?LQ (Rb xs k ps)
abbrev Te(c:Ms)(t:Ms)[?b1]:Ms:=?r5 (λt p=>?bW t (?c5 (wI ?eI c) ?j6)) t
abbrev Wb(e:Ms)(t:Ms)[?b1]:Ms:=?r5 (λt p=>if ?i8 then t else ?bW t (?c5 (wI ?eI e / p.1) ?cJ)) t
abbrev Qd(hs:?bY)(k:Int):?eA:=if 0<k then ?yF (k-1).toNat [] else []
abbrev jW[?O][?tO](q:Nat):Ms :=
 Wb (Bh xs ?kA) (Te ?kA (?bW (Bh xs (?gV q [])) (M4 lf (Bh xs ?kA))) (?yF (?m7).toNat [])) (Qd hs (?m7))
abbrev Nz[?O][?tO](q:Nat):Bool:=?q9 (jW xs hs lf q) ?kA
structure LH[?O][?tO]:Prop where
 sh:?eE
 len:?l3
 n4:hs.length=4
 ok:∀(k:Nat) ps,hs[k]?=?fS->?sF/\jO (?r4 (·.1))/\?S4
 ll:?zQ
 lc:∀i,?HM->ChL xs (Bs ?xU+1) ?g6/\(∃j:Nat,j<4/\?a0E ?aI ?g6)/\?OP
abbrev Vf[?O][?tO]:Bool:=((?d8 4).all λk:Nat=>F8 xs ?aA (?yF k []))&&(?d8 ?D).all (Nz xs hs lf)
section
variable[?F]
abbrev AN[?d6]:Sp:=λvs H Q _=>Dx λ ?k=>Dw (vs=[?e2]) (n=0\/1<n) (?t2)
abbrev eO:Sp:=λvs H Q _=>Ex6 λ ?cU ?jS ?lE ?U ?aA (p:BPart)=>Er (?ZX v) ?aK (?s3) (?vF) ?kS
abbrev EN:Sp:=λvs H Q _=>F1 λ ?cU ?GE=>Er ?sS (?a09 a ?OS) (ns.length<=1000) (jO ns) ?kS
abbrev aP:Sp:=λvs H Q _=>WG λ ?uB ?lE ?U ?aA ?m4 ?y4=>Xg (?ZX ?gW) ?aK (H l=?bR) (?m9) (?sF) (∀p∈ps,?vF) (jO (?r4 (·.1))) ?kS
abbrev aO:Sp:=λvs H Q _=>WG λ ?uB ?lE ?U (k:Nat) ?m4 ?y4=>EA (vs=[?K,?f ?aA,?gW]) ?aK (?eE/\?l3) (k<4) (H l=?bR) (?m9) (?sF) (?S4) (?XZ (F8 xs ?aA ps))
abbrev aN:Sp:=λvs H Q _=>jQ λ ?MW ?lE ?U (q:Nat) ?IQ ?K7 ?nJ=>EA (vs=[?K,?p h,?gW,?f ?aX]) ?aK (?a2A h lu) (?xT) (H l=?mC) (?a0Y H) (LH xs hs lf) (?fQ) (?XZ (Nz xs hs lf q))
abbrev EO:Sp:=λvs H Q _=>Ex9 λ ?MW ?lE ?U ?IQ ?K7 ?nJ=>Xg (vs=[?K,?p h,?gW]) ?aK (?a2A h lu) (?xT) (H l=?mC) (?a0Y H) (LH xs hs lf) (?XZ (Vf xs hs lf))
abbrev AO:Sp:=λvs H Q _=>eE λ ?uB ?U ?SX ?nJ=>Xg (vs=[?K,?gW]) ?aK ?dM (H l=?mC) (?a0Y H) (?zQ) (∀(i:Nat),?HM->?a1U ?rL 40/\?a0E (Bs ?xU+1) ?g6) ?kS
universe e9
abbrev Cp(n:Nat):LLInt:=[[]]++Os 0 1 n
abbrev E5(i:Nat):Ms:=?ID λj:Nat=>(?mN,?lJ)
abbrev El(n i:Nat):Ms:=?S3 λj:Nat=>(?o8,1)
abbrev F0(n i:Nat):Ms:=if i=0 then ?I3 else ?ID ?JC
abbrev L6(n:Nat):?c9:=[[]]++?rQ (F0 n)++?vM
abbrev W8(n:Nat)(g f:Ms):?bY:=[[(0,[(0,1)],[(0,1)],[])],[(?k,?e9,g,f)],[],[]]
set_option maxRecDepth 100000 in
def Ac8:∀n:Nat,?bS->?bU->Vf ?v (W8 n ?d7 ?dF) ?mQ=true:=?n
def xR:∀n:Nat,?bS->?bU->∀j:Nat,j<n->∀e:Nat,e<n->?a13 ?mE ?p1+?aI*(?QL)=if e=j then 1 else 0:=?n
def XQ:∀n:Nat,?bS->?bU->∀a:Nat,a<n->?vH≠0:=?n
def Aw3:∀n:Nat,?bS->?bU->∀e:Nat,e<n->?a13 ?dF ?p1=if e=1 then ?k else 0:=?n
def Aw2:∀n:Nat,?bS->?bU->∀j:Nat,j<n->Br ?d7 (1+?aI)=?aI:=?n
def xQ:∀n:Nat,?bS->?bU->∀j:Nat,j<n->∀a:Nat,a<n->?SP<=1/\Br ?dF ?eG=1:=?n
def aY:∀n:Nat,?bS->?bU->∀q:Nat,q<?fY->Bs (?pY q []).length=(if q=0 then 0 else if q<n+1 then 1 else 2):=?n
def zU:∀n:Nat,?bS->?bU->((E5 n).map (·.1)).Nodup/\((?wZ).map (·.1)).Nodup/\∀j:Nat,j<n->((?p7).map (·.1)).Nodup:=?n
def eZ{ms:Ms}{q v:Int}(h:?q9 ms [(q,v)]=true):ms=[(q,v)]:=by
 unfold sameC at h;rw[qc3]at h;have hl:ms.length=1:=by simpa using h.1
 match ms,hl with
 | [p],_ =>
   have:=?gI h.2 p ?S;have h3:=qd5 ?aG;unfold lookI at h3;by_cases z:q=p.1
   . simp[z]at h3;rw[z]
     congr 1
     exact Prod.ext rfl h3.symm
   . simp[z]at h3
def MZ{m:Ms}(h:nd m)(k v:Int):Br (?FM) k=v:=by
 unfold Br;rw[AX,?r];rfl
section
variable[?CF]
include Eb h2
def AZ:?ZD ?eC ?fY:=by
 unfold Cp;rw[qa8,NG];show 1+(n+n)=?fY;omega
def tY:Ca ?v:=(?DL).sh
def AU{p k:Int}(h0:0<=p)(h1:p<2*?k+1)(hk:k=if p=0 then 0 else if p<?k+1 then 1 else 2):p∈?uQ:=by
 apply Xq h0 (by rw[?k5];omega) ?_;rw[?a12 ?p0 ?d,hk];by_cases z:p=0
 . ext mY
 . ext mX;by_cases y:p<?k+1
   . rw[?q y,?Z]
   . rw[?h y,?l]
def lC[?u5](hn:nd m)(hz:nz m)(hk:∀p∈m,p.1∈?uQ):?PC:=by
 apply#[#[hn,hz,?aR],?PL]
 . let ?KY:=Di (hk p hp);rw[?k5]at b;exact ?QM
 . let ?KJ:=?kW;exact hq (hk t ht)
def fB{k key v:Int}{m:Ms}(h:?PC)(hv:v≠0)(hk:key∈?uQ):?a04 k (?bE m key v):=by
 apply lC Eb h2 (QI h.ok.n _ _) (QA h.ok.z hv) ?aR;rcases QU (qk4 (f:=(·.1)) hp) with z | z
 . let#[t,ht,e]:=?kW;rw[←e];exact ?l0 t ht
 . rw[z];exact hk
def iW:?a04 1 ?d7:=by
 apply lC Eb h2 (?zM).1 (?aR) ?aR
 . ext gL;show ?lJ≠0;omega
 . ext gL;ext j0;exact AU Eb h2 (?a11 ?mN) (?YY ?mN _) (by rw[?l,?q (?YY ?mN _)])
def RE:?a04 2 ?dF:=by
 apply lC Eb h2 (?zM).2.1 (?aR) ?aR
 . ext gL;show ?yE;decide
 . ext gL;ext j0;exact AU Eb h2 (?a11 ?o8) (?YY ?o8 _) (?a0L ?o8)
def mO{j:Nat}(hj:j<n):?a04 2 ?mE:=by
 apply lC Eb h2 ((?zM).2.2 j hj) (?aR) ?aR
 . unfold F0 at hp;split at hp
   . rw[?i5];show ?yE;decide
   . ext CB;show ?iV≠0;decide
 . unfold F0 at hp;split at hp
   . rw[?i5];exact AU Eb h2 (?a11 ?bK) (?YY ?bK _) (?a0L ?bK)
   . ext CB;have:=?eU;exact AU Eb h2 (by show 0<=?bK+(1+?P);omega) (by show ?bK+(1+?P)<_;omega) (by rw[?l,?h (by show ¬?bK+(1+?P)<_;omega)])
def t70[?j1]:?bK+a∈Da ?v 2:=AU Eb h2 O9m O9m (by ext eY)
def x70[?j1]:?hJ∈Da ?v 1:=AU Eb h2 O9m O9m (by rw[?l,?Z])
def kI{g f:Ms}[?aD](hg:?OX)(hf:?a04 2 f)(mg:∀t∈g,?bQ)(mf:∀t∈f,?bQ)(ll:lf.length=?fY)
 (lc:∀i,i<?fY->(?kC->?rL=[])/\?a04 2 ?g6/\?OP):?U0:=by
 have l70:=?k5;apply#[?v5,O9m,rfl,λk ps hk=>?_,O9m,?lL]
 . match k,hk with
   | 0,hk =>
     have e:ps=[(0,[(0,1)],[(0,1)],[])]:=?vD;subst e;apply#[?aF,?QD,?aR]
     . have:m=0:=?J3
       omega
     . rw[?i5];have c:=?a1L 0;rw[?a12 0 ?d]at c;have s1:∀t∈([(0,1)]:Ms),?bQ:=?KP
       exact#[?zC,by show ?bJ<1073741824;decide,c,c,?vA,λ_=>rfl,#[0,?aF,rfl],s1,s1,?EB]
   | 1,hk =>
     have e:ps=[(?k,?e9,g,f)]:=?vD;subst e;apply#[(by show 1<=40;decide),?QD,?aR]
     . have:m=?k:=?J3
       omega
     . rw[?i5];ext VX;have s1:∀t∈(?e9:Ms),?bQ:=?KP
       exact#[?o (?YY ?M n),?YY ?k 1073741824,c,hg,hf,λz=>by have:?k=0:=z;omega,#[2,?aF,hf.chain],s1,mg,mf]
   | 2,hk =>
     ext VV
   | 3,hk =>
     ext VV
   | k+4,hk=>simp[W8]at hk
 . rw[l70]at hi;let#[z1,z2,z3]:=lc i hi;apply#[?_,?_,z3]
   . rw[?a12 i hi];by_cases e0:?kC
     . rw[z1 e0];exact ?vA
     . rw[?l,?Z];exact z2
   . exact#[2,?aF,z2.chain]
def KH{g f:Ms}[?aD](hg:?OX)[?j1](hl:?a04 2 (?nZ))(h:Nz ?v ?sG lf ?iN=true)(e:Int) :
 ?a13 (?nZ) e+?R5*Br ?e9 e=Br [(?hJ,1)] e:=by
 have l70:=?k5;have lv:=?a12 ?iN O9m;rw[?l,?Z]at lv;have KS:=?AO (xs:=?eC) O9m (q:=1+a) O9m;rw[lv]at KS;have eq_:((1+a:Nat):Int)=?oL:=O9m
 rw[eq_]at KS
 have e0:Bh ?v [(?hJ,1)]=[]:=SA (?v5) KS λq=>by
  rw[Qc];have:∀n:Nat,?bS->?bU->∀a:Nat,a<n->?pY ?iN []=[0,0]:=?n
  rw[show(?hJ).toNat=1+a by omega,?aG n Eb h2 a ha];exact fQ 0 q
 have et:jW ?v ?sG lf ?iN=?bW (Bh ?v (?nZ)) (?c5 (wI g [(?hJ,1)]) ?e9):=by
  unfold jW;rw[lv,eq_,e0];rfl
 unfold Nz at h;rw[et,eq_]at h;have one:=eZ h;have hb:=ChL.bord (?v5) O9m (k:=1) hl
 have c2:?a04 1 ?e9:=by
  ext VX;exact c
 rw[←one,BI hb.ok (c2.ok.times _),Z5,HF hg KS]
 congr 2
 show ?R5=([?GW].map λp=>p.2*Br g p.1).sum;simp
def fD{hs:?bY}[?aD](h:Vf ?v hs lf=true)[?j1]:Nz ?v hs lf ?iN=true:=by
 unfold Vf at h;rw[qc3]at h;exact ?gI h.2 _ (?jB (by rw[?k5];omega))
def wM(e:Nat):Br [(?e1,?M)] ?p1=?QL:=by
 unfold Br lookI;by_cases z:e=1
 . subst z;rfl
 . rw[?b2,qk7,?Z9 ((?e1,?M).1=?hM) ?hM];rfl
def WU(a e:Nat):Br [?GW] ?p1=if e=a then 1 else 0:=by
 unfold Br lookI;by_cases z:e=a
 . subst z;rw[?r,qk7,show ?j (((?M+(e:Int)),?M).1=?hM)=true from qe1 rfl];rfl
 . rw[?b2,qk7,show ?j (((?M+?hE),?M).1=?hM)=false from qf2 (by show ¬?M+?hE=?hM;omega)];rfl
def Ay1{f:Ms}[?aD][?j1]{v:Int}(hv:0<=v)(hl:?nZ=F0 n a):?ZN (?bE ?d7 ?fH (?k+v)) f:=by
 rw[qq2];intro h;have hg:=fB Eb h2 ?iS (v:=?k+v) O9m (x70 Eb h2 ha);have h1:=KH Eb h2 hg ha (by rw[hl];exact mO Eb h2 ha) (fD Eb h2 h ha) (1+?kJ);rw[hl,?F3,?M6,?r,MZ (?K5).ok.n]at h1;have h3:=xR n Eb h2 a ha 1 O9m;rw[?r]at h3;omega
def gR[?u5](hm:?a04 2 m){a:Nat}(v e:Int):?a13 (?bE m ?eG v) e=?a13 m e+(v-Br m ?eG)*Jc (?pY (1+n+a) []) e:=by
 rw[P6,P6,OS _ hm.ok.n];rw[show(?M+?k+?hE).toNat=1+n+a by omega]
def Ay0[?aD]{j a:Nat}(hj:j<n)(ha:a<n){v:Int}(hv:2<=v)(hl:?gV ?r0 []=?bE ?mE ?eG v){f:Ms}:?ZN ?d7 f:=by
 rw[qq2];intro h;have hc:=fB Eb h2 (mO Eb h2 hj) (v:=v) O9m (t70 Eb h2 ha);have h1:=KH Eb h2 ?iS hj (by rw[hl];exact hc) (fD Eb h2 h hj) ?fH;rw[hl,gR Eb h2 (k:=0) (mO Eb h2 hj),?F3,?M6,Aw2 n Eb h2 j hj]at h1;have h3:=xR n Eb h2 j hj a ha;have h5:=(xQ n Eb h2 j hj a ha).1;have h6:=?R6;have:(v-?SP)*?vH=0:=O9m
 rcases qn6.mp ?aG with z | z
 . omega
 . exact h6 z
def Ay2{g:Ms}[?aD][?j1]{v:Int}(hv:2<=v):?ZN g (?xG):=by
 rw[qq2];intro h;unfold Vf at h;rw[qc3]at h;have hl:=?gI h.1 1 ?Y;have hl2:F8 ?v 1 [(?k,?e9,g,?xG)]=true:=hl;unfold F8 at hl2;have h0:=?gI hl2 0 ?bD;unfold Rb at h0;rw[qc3,qc3,qc3]at h0;have hs:?q9 (Bh ?v (?xG)) (?c5 ?k ?e9)=true:=h0.1.1.2
 have et:?c5 ?k [(?e1,?M)]=[(2,?k)]:=by
  unfold timesI;ext dT;show [(?e1,?k*1)]=_;rw[qk5]
 rw[et]at hs;have one:=eZ hs;have h1:=gR Eb h2 (k:=0) ?mU (a:=a) v ?fH;rw[one,Aw3 n Eb h2 a ha,(xQ n Eb h2 a ha a ha).2]at h1
 have e2:Br [(?e1,?k)] ?fH=if a=1 then ?k else 0:=by
  unfold Br lookI;by_cases z:a=1
  . subst z;rfl
  . rw[?b2,qk7,?Z9 ((?e1,?k).1=?oL) ?oL];rfl
 rw[e2]at h1;have h6:=?R6;have:(v-1)*?vH=0:=O9m
 rcases qn6.mp ?aG with z | z
 . omega
 . exact h6 z
universe e9
abbrev DictsN(O H:Hp)(as:?eT)[?dU]:Prop:=as.length=lf.length/\as.Nodup/\∀(i:Nat) a,?a1W as a->O a=none/\?a2P a ?g6
def DictsN.same{O H H':Hp}[?n7][?aD][?CK][?cG]:?e3 O H' as lf:=#[h.1,?l7,λi a e=>#[(?KW).1,s _ _ (?KW).2]]
def DictsN.snoc{O H:Hp}[?n7][?aD]{c:Addr}{m:Ms}[?CK](nc:c ∉ as)[?BX]:?e3 O H (as++[c]) ?KB:=by
 apply#[?D3,qq0.mpr #[?l7,?hC,?NU],?KZ]
 . rw[?h4 hy]at z;exact nc (z▸hx)
 . by_cases hi:?GH
   . ext WB;exact ?nF
   . have hl:=?S1;rw[qa8,qn5]at hl;have ei:i=as.length:=O9m
     subst ei;rw[?e4,qh2]at ha;have ea:c=a:=by simpa using ha
     subst ea;rw[qa0,qb5 (by rw[h.1];ext dV),h.1,qh2];exact#[e0,e]
def DictsN.out{O H:Hp}[?n7][?aD][?CK]:En ?iD H (as.map ?dP) lf:=by
 apply#[by rw[qa2];exact h.1,λi v hv=>?_];rw[qb4]at hv;let#[a,ha,rfl]:=qg9.mp hv;exact#[a,rfl,rfl,(?nF).2]
def DictsN.append{O H H1:Hp}{as bs:?eT}{l1 l2:?c9}(h:?e3 O H1 as l1)(h':?e3 H1 H bs l2)(s:?H O H1)(s':?H H1 H):?e3 O H ?E7 (l1++l2):=by
 apply#[by rw[qa8,qa8,h.1,h'.1],qq0.mpr #[?l7,h'.2.1,?NU],?KZ]
 . let#[i,hi]:=qf7 hx;let#[j,hj]:=qf7 hy;have e1:=(?mI i x hi).2;have e2:=(h'.2.2 j y hj).1;rw[z,e2]at e1;cases e1
 . by_cases hi:?GH
   . ext WB;exact#[(?nF).1,s' _ _ (?nF).2]
   . rw[?fC]at ha;rw[qa0,qb5 (by rw[←h.1];omega),←h.1,←qa0];exact#[s.free (?I6).1,(?I6).2]
abbrev cY(n i m:Nat):Ms:=if i=0 then ?I3 else(?d8 m).map ?JC
def qO{n i m:Nat}(hi:¬i=0):?bE (?FN) (?bK+(1+?aV)) (-1)=cY n i ?dI:=by
 unfold cY putI;rw[?oK,?oK,if_neg,qg6,qb0]
 . rfl
 . ext C1;ext gL;have h1:?bK+(1+?aI)=1+n+(1+?aV):=qd5 e;ext j0;omega
def QO(n i m:Nat):(?FN).length<=m+1:=by
 unfold cY;split
 . exact qj0 ?iA
 . rw[qa2,qd9];omega
abbrev Th[?d6]:Sp:=λvs H Q _=>Dx λ(n:Nat)=>Bw (vs=[?f ?k]) (?bU) (?bS) (∀(D:Addr) (as:?eT) (H':Hp),?c7->?W->?cK=?XX (as.map ?dP)->?e3 H H' as ?mQ->?cQ)
def TI.updD[?V][?WK]{v:V}{x:?e}(h:TI K H v x):TI K (upd H d o) v x:=by
 let ?EF:=TI.sq h;apply ?QN;rcases sq with(h|⟨o',h⟩) | h
 . apply ?i (?i ?_);ext X2
 . apply ?a14 o' ?_;ext X2
 . exact ?iL
def Kc[?V][?WK]:?a0W (upd H d o)
 | us,[],h=>h
 | us,x::xs,h=>by
   let ?PP:=h;exact#[v,vs,e,TI.updD hd hv,Kc hd hr]
structure ED[?F](O G:Hp)(p d1 d2 l:Addr)(n:Nat)[?nB](f g:Ms)(as:?eT)[?dU]:Prop where
 sm:?H O G
 hp:G p=?bR
 r:?g9 K G us ((?eC).map tI)
 h1:G d1=?XQ f
 h2:G d2=?XQ g
 hl:G l=?XX (as.map ?dP)
 dn:?e3 O G as lf
 ne:d1≠d2
 n1:d1 ∉ as
 n2:d2 ∉ as
 o1:O d1=none
 o2:O d2=none
 op:O p=none
section
variable[?V]{O G:Hp}{p d1 d2 l:Addr}{n:Nat}[?f8]{f g:Ms}[?n7][?aD]
def ED.same{G':Hp}[?tN](s:?H G G'):?a0S G' :=
 #[h.sm.trans s,?a1O h.hp,Reps.same s h.r,?a1O h.h1,?a1O h.h2,?a1O h.hl,h.dn.same s,h.ne,?hN,?gT,h.o1,h.o2,h.op]
def ED.put1[?tN](m:Ms):ED K O (upd G d1 ?t3) p d1 d2 l n us m g as lf:=by
 apply#[?AH h.o1,?_,Kc h.h1 h.r,Ab,by rw[Ak h.ne.symm];exact h.h2,?_,?OC,h.ne,?hN,?gT,h.o1,h.o2,h.op]
 . rw[Ak λz=>by have:=h.hp;rw[z,h.h1]at this;cases this];exact h.hp
 . rw[Ak λz=>by have:=h.hl;rw[z,h.h1]at this;cases this];exact h.hl
 . have na:a≠d1:=?a0P ?hN;rw[Ak na];exact ?BJ
def ED.put2[?tN](m:Ms):ED K O (upd G d2 ?t3) p d1 d2 l n us f m as lf:=by
 apply#[?AH h.o2,?_,Kc h.h2 h.r,by rw[Ak h.ne];exact h.h1,Ab,?_,?OC,h.ne,?hN,?gT,h.o1,h.o2,h.op]
 . rw[Ak λz=>by have:=h.hp;rw[z,h.h2]at this;cases this];exact h.hp
 . rw[Ak λz=>by have:=h.hl;rw[z,h.h2]at this;cases this];exact h.hl
 . have na:a≠d2:=?a0P ?gT;rw[Ak na];exact ?BJ
def ED.putL[?tN]{j:Nat}{c:Addr}(hj:as[j]?=?hQ)(m:Ms):ED K O (upd G c ?t3) p d1 d2 l n us f g as (?vY j m):=by
 let#[oc,hc]:=?MV j c hj;have hjl:=?TL;have nc1:d1≠c:=λz=>?hN ?QK;have nc2:d2≠c:=λz=>?gT ?QK;apply#[?AH oc,?_,Kc hc h.r,by rw[Ak nc1];exact h.h1,by rw[Ak nc2];exact h.h2,?_,#[by rw[qi2];exact ?vC,?B0,?R9],h.ne,?hN,?gT,h.o1,h.o2,h.op]
 . rw[Ak λz=>by have:=h.hp;rw[z,hc]at this;cases this];exact h.hp
 . rw[Ak λz=>by have:=h.hl;rw[z,hc]at this;cases this];exact h.hl
 . by_cases z:i=j
   . subst z;have:c=a:=qb9 (hj.symm.trans ha);subst this;rw[Ab,qa0,ql6 (by rw[←?vC];exact hjl)];rfl
   . have hil:=?S1
     have:a≠c:=λy=>by
      subst y;rw[qa1 hil]at ha;rw[qa1 hjl]at hj;exact z ((?NG ?B0).mp ((qb9 ha).trans (qb9 hj).symm))
     rw[Ak ?aG,qa0,?DK,←qa0];exact ?BJ
universe e9
inductive Spoil(n:Nat)(how v:Int)(a j:Nat):Ms->?a2B Ms ?c9
 | none:?mP=0->?a0D ?d7 ?dF
 | gau:?mP=1->?a0D (?bE ?d7 ?fH (?k+v)) ?dF
 | fil:?mP=2->?a0D ?d7 (?bE ?dF ?eG (2+v))
 | lif:?mP=2->?jU n how v a j ?d7 ?dF (?P6)
def CY{n j:Nat}(hj:j<n):?TK ?r0 []=?p7:=by
 unfold L6;rw[qh8,qa0,qb5 ?bD,qb8 ?fX,qb4,qj4 ?fX];show F0 n (1+j-1)=_;rw[qn0]
def M5(n:Nat):(L6 n).length=?fY:=by
 unfold L6;rw[qa8,qa8,qa2,qd9,qc5];show 1+n+n=_;omega
def FZ{n i:Nat}(h:?kC):?nC=[]:=by
 unfold L6;rcases h with rfl | h
 . rfl
 . rw[qa0,qb5 ?fX,ql1];split<;>rfl
def dW{m:Ms}{k v:Int}(h:?JI)(hv:v.natAbs<?cZ):∀t∈?FM,?bQ:=λt ht=>by
 unfold putI at ht;split at ht
 . let ?v4:=?b5 ht;split
   . exact hv
   . exact h p hp
 . rcases ?j5 ht with z | z
   . exact h t z
   . rw[?h4 z];exact hv
def VU:∀n:Nat,?bS->(∀t∈E5 n,?t0)/\(∀t∈?wZ,?t0)/\∀j:Nat,j<n->∀t∈?p7,?t0:=?n
def Spoil.ok[?CF]{how v:Int}{a j:Nat}(ha:a<n)(hj:j<n)(hv0:0<=v)(hv:v<10 ^ 20){g f:Ms}[?aD](h:?jU n how v a j g f lf):?U0/\Vf ?v ?sG lf=?j (?mP=0):=by
 let ?R3:=VU n Eb;have up:∀{m:Ms},(∀t∈m,?t0)->?JI:=λh t ht=>qs5 (h t ht) ?Y;have p20:(10:Int) ^ 20=100000000000000000000:=?aF
 rw[p20]at hv;have v1:?D7<?cZ:=?Z4 ?D7;have v2:?HL<?cZ:=?Z4 ?HL
 have std:∀i,i<?fY->(?kC->?nC=[])/\?a04 2 (?nC)/\∀t∈?nC,?bQ:=λi hi=>by
  apply#[λz=>FZ z,?_];by_cases z:?kC
  . rw[FZ z];exact#[?vA,?EB]
  . obtain⟨k,rfl⟩:∃k,i=1+k:=?O2
    rw[CY ?d];exact#[mO Eb h2 O9m,up (b3 k O9m)]
 cases h with
 | none h0=>exact#[kI Eb h2 ?iS ?mU ?s0 ?pZ ?xS std,by rw[qe1 h0];exact Ac8 n Eb h2]
 | gau h0=>exact#[kI Eb h2 (?ZC ?iS x70) ?mU (dW ?s0 v1) ?pZ ?xS std,by rw[?r8];exact Ay1 Eb h2 ha hv0 (CY ha)]
 | fil h0=>exact#[kI Eb h2 ?iS (?ZC ?mU t70) ?s0 (dW ?pZ v2) ?xS std,by rw[?r8];exact Ay2 Eb h2 ha O9m]
 | lif h0 =>
   have ej:(?P6).getD ?r0 []=?OM:=by
    rw[qa0,ql6 (by rw[M5];omega)];rfl
   apply#[kI Eb h2 ?iS ?mU ?s0 ?pZ (by rw[qi2,M5]) ?lL,by rw[?r8];exact Ay0 Eb h2 hj ha O9m ej];by_cases z:i=1+j
   . subst z;rw[ej];exact#[λy=>O9m,?ZC (mO Eb h2 hj) t70,dW (up (b3 j hj)) v2]
   . rw[qa0,?DK,←qa0];exact std i hi
def nA{i:Nat}(hi:0<i):?bE (E5 i) (1+?P) ?P=E5 ?L:=by
 unfold E5 putI;rw[if_neg,qp1]
 . obtain⟨m,rfl⟩:∃m,i=m+1:=?O2
   rw[qp1,qg6,qb0]
   congr 1
   show [(?M+?pB,?pB)]=[(?aV+2,?aV+1)]
   rw[show ?M+?pB=?aV+2 by omega,show ?pB=?aV+1 by omega]
 . ext C1;ext gL;have h1:?mN=1+?P:=qd5 e;ext j0;omega
def nF(n i:Nat):?bE (El n i) (1+?k+?P) 1=El n ?L:=by
 unfold El putI;rw[if_neg,qg6,qb0]
 . rfl
 . ext C1;ext gL;have h1:?bK+?aI=1+n+?P:=qd5 e;ext j0;omega
def BK(n i:Nat):(El n i).length=i:=by unfold El;rw[qa2,qd9]
def bJ(i:Nat):(E5 i).length=i-1:=by unfold E5;rw[qa2,qd9]
def Ad5{n i:Nat}(h2:?bU):Cy 1 n [] i=[2,1+((0+?P)+1)%?k,1+(0+?P)]:=by
 rw[RH ?d];have:?M%?k=1:=Int.emod_eq_of_lt ?Y O9m;rw[this];rfl
def yS[?CF][?d3](tie:∃z L G,?ZQ ?v 4){k:Nat}(hk:k<4)[?bF][?CM]:?u9=[1,0,0,0].getD k 0/\?dC=[[],?pG,[],[]].getD k []:=by
 have l:=?DL
 have e:BC [] ?k=?pG:=by
  unfold BC;ext dT;show(if 1<?k then ?pG else [])=_;rw[?Z]
 rw[e]at l;exact l.told (Turned.refl (xs:=?eC)) tie hk hp
def Uu(G:Hp)(d:Addr)(k v:Int):upd (upd G d (.dK [])) d (.dK (Fs [] [(Sum.inl k,?a7 v)]))=upd G d (?a2Q [?jW]):=by
 funext b
 by_cases hb:b=d
 . subst hb;rw[Ab,Ab];rfl
 . rw[Ak hb,Ak hb,Ak hb]
universe Hb
namespace Hb
open PySem L2
def Ha{S:St}{p0:?a9}[?E](k:∀H,?eS->?oD):?XM (σ=S/\?eS):=by
 rintro _ H ⟨rfl,h0⟩;exact k H h0
def AI{S:St}{p0 p1:?a9}[?E](k:∀H,?eS->p1 H->?oD):?XM (Dw ?vL (?eS) (p1 H)):=by
 rintro _ H ⟨rfl,h0,h1⟩;exact k H h0 h1
def Al5{S:St}{p0 p1 p2:?a9}[?E](k:∀H,?eS->p1 H->p2 H->?oD):?XM (Bw ?vL (?eS) (p1 H) (p2 H)):=by
 rintro _ H ⟨rfl,h0,h1,h2⟩;exact k H h0 h1 h2
def Al4{S:St}{p0 p1 p2 p3 p4:?a9}[?E](k:∀H,?eS->p1 H->p2 H->p3 H->p4 H->?oD):?XM (G9 ?vL (?eS) (p1 H) (p2 H) (p3 H) (p4 H)):=by
 rintro _ H ⟨rfl,h0,h1,h2,h3,h4⟩;exact k H h0 h1 h2 h3 h4
def O0[?c1]{p0 p1:?gF}[?E](k:∀x0 H,?mG->?jI->?lI):?XM (?a2T ?fO ?i4):=by
 rintro _ H ⟨x0,rfl,h0,h1⟩;exact k x0 H h0 h1
def Mm[?c1]{p0 p1 p2:?gF}[?E](k:∀x0 H,?mG->?jI->?pC->?lI):?XM (Dx λx0=>Bw ?eO ?fO ?i4 ?qE):=by
 rintro _ H ⟨x0,rfl,h0,h1,h2⟩;exact k x0 H h0 h1 h2
def Al3[?c1]{p0 p1 p2 p3:?gF}[?E](k:∀x0 H,?mG->?jI->?pC->?y8->?lI):?XM (Dx λx0=>Er ?eO ?fO ?i4 ?qE (p3 x0 H)):=by
 rintro _ H ⟨x0,rfl,h0,h1,h2,h3⟩;exact k x0 H h0 h1 h2 h3
def wK[?c1]{p0 p1 p2 p3 p4:?gF}[?E](k:∀x0 H,?mG->?jI->?pC->?y8->?KR->?lI):?XM (Dx λx0=>G9 ?eO ?fO ?i4 ?qE (p3 x0 H) ?EQ):=by
 rintro _ H ⟨x0,rfl,h0,h1,h2,h3,h4⟩;exact k x0 H h0 h1 h2 h3 h4
def jS[?c1]{p0 p1 p2 p3 p4 p5:?gF}[?E](k:∀x0 H,?mG->?jI->?pC->?y8->?KR->p5  x0 H->?lI):?XM (Dx λx0=>Oy ?eO ?fO ?i4 ?qE (p3 x0 H) ?EQ (p5 x0 H)):=by
 rintro _ H ⟨x0,rfl,h0,h1,h2,h3,h4,h5⟩;exact k x0 H h0 h1 h2 h3 h4 h5
def OQ[?c0]{p0:?iT}[?E](k:∀x0 x1 H,?hX->?iR):?XM (F1 λx0 x1=>?mH/\?OD):=by
 rintro _ H ⟨x0,x1,rfl,h0⟩;exact k x0 x1 H h0
def JR[?c0]{p0 p1:?iT}[?E](k:∀x0 x1 H,?hX->?mL->?iR):?XM (F1 λx0 x1=>Dw ?dX ?jL ?lU):=by
 rintro _ H ⟨x0,x1,rfl,h0,h1⟩;exact k x0 x1 H h0 h1
def oQ[?c0]{p0 p1 p2:?iT}[?E](k:∀x0 x1 H,?hX->?mL->?q4->?iR):?XM (F1 λx0 x1=>Bw ?dX ?jL ?lU ?qM):=by
 rintro _ H ⟨x0,x1,rfl,h0,h1,h2⟩;exact k x0 x1 H h0 h1 h2
def OP[?c0]{p0 p1 p2 p3:?iT}[?E](k:∀x0 x1 H,?hX->?mL->?q4->?zG->?iR):?XM (F1 λx0 x1=>Er ?dX ?jL ?lU ?qM (?a29 p3)):=by
 rintro _ H ⟨x0,x1,rfl,h0,h1,h2,h3⟩;exact k x0 x1 H h0 h1 h2 h3
def OO[?c0]{p0 p1 p2 p3 p4:?iT}[?E](k:∀x0 x1 H,?hX->?mL->?q4->?zG->?MM->?iR):?XM (F1 λx0 x1=>G9 ?dX ?jL ?lU ?qM (?a29 p3) (?a29 p4)):=by
 rintro _ H ⟨x0,x1,rfl,h0,h1,h2,h3,h4⟩;exact k x0 x1 H h0 h1 h2 h3 h4
def Al2[?c0]{p0 p1 p2 p3 p4 p5 p6:?iT}[?E](k:∀x0 x1 H,?hX->?mL->?q4->?zG->?MM->?a0K p5->?a0K p6->?iR):?XM (F1 λx0 x1=>Xg ?dX ?jL ?lU ?qM (?a29 p3) (?a29 p4) (?a29 p5) (?a29 p6)):=by
 rintro _ H ⟨x0,x1,rfl,h0,h1,h2,h3,h4,h5,h6⟩;exact k x0 x1 H h0 h1 h2 h3 h4 h5 h6
def WJ[?f0]{p0 p1:?rX}[?E](k:∀x0 x1 x2 H,?qA->?nT->?rP):?XM (Ut λx0 x1 x2=>Dw ?g8 ?nN ?q1):=by
 rintro _ H ⟨x0,x1,x2,rfl,h0,h1⟩;exact k x0 x1 x2 H h0 h1
def oO[?f0]{p0 p1 p2:?rX}[?E](k:∀x0 x1 x2 H,?qA->?nT->?AU->?rP):?XM (Ut λx0 x1 x2=>Bw ?g8 ?nN ?q1 (?a23 p2)):=by
 rintro _ H ⟨x0,x1,x2,rfl,h0,h1,h2⟩;exact k x0 x1 x2 H h0 h1 h2
def Al1[?f0]{p0 p1 p2 p3 p4:?rX}[?E](k:∀x0 x1 x2 H,?qA->?nT->?AU->?SR->?K8->?rP):?XM (Ut λx0 x1 x2=>G9 ?g8 ?nN ?q1 (?a23 p2) (?a23 p3) (?a23 p4)):=by
 rintro _ H ⟨x0,x1,x2,rfl,h0,h1,h2,h3,h4⟩;exact k x0 x1 x2 H h0 h1 h2 h3 h4
def Al0[?f0]{p0 p1 p2 p3 p4 p5:?rX}[?E](k:∀x0 x1 x2 H,?qA->?nT->?AU->?SR->?K8->?Z8 p5->?rP):?XM (Ut λx0 x1 x2=>Oy ?g8 ?nN ?q1 (?a23 p2) (?a23 p3) (?a23 p4) (?a23 p5)):=by
 rintro _ H ⟨x0,x1,x2,rfl,h0,h1,h2,h3,h4,h5⟩;exact k x0 x1 x2 H h0 h1 h2 h3 h4 h5
def Ak9[?tM]{p0:?v2}[?E](k:∀x0 x1 x2 x3 H,?BD->?z9):?XM (Xy λx0 x1 x2 x3=>σ=?hO/\?xE):=by
 rintro _ H ⟨x0,x1,x2,x3,rfl,h0⟩;exact k x0 x1 x2 x3 H h0
def wJ[?tM]{p0 p1 p2:?v2}[?E](k:∀x0 x1 x2 x3 H,?BD->?UG->?JZ->?z9):?XM (Xy λx0 x1 x2 x3=>Bw (σ=?hO) (?xE) (?a24 p1) (?a24 p2)):=by
 rintro _ H ⟨x0,x1,x2,x3,rfl,h0,h1,h2⟩;exact k x0 x1 x2 x3 H h0 h1 h2
def Ak8[?tM]{p0 p1 p2 p3 p4:?v2}[?E](k:∀x0 x1 x2 x3 H,?BD->?UG->?JZ->?YX p3->?YX p4->?z9):?XM (Xy λx0 x1 x2 x3=>G9 (σ=?hO) (?xE) (?a24 p1) (?a24 p2) (?a24 p3) (?a24 p4)):=by
 rintro _ H ⟨x0,x1,x2,x3,rfl,h0,h1,h2,h3,h4⟩;exact k x0 x1 x2 x3 H h0 h1 h2 h3 h4
def Ak7[?X3]{p0 p1 p2:A0->A1->A2->A3->A4->?a9}[?E](k:∀x0 x1 x2 x3 x4 H,?a0V p0->?a0V p1->?a0V p2->let s:=(?BC);?cW):?XM (eE λx0 x1 x2 x3 x4=>Bw ?H6 (?a2C p0 H) (?a2C p1 H) (?a2C p2 H)):=by
 rintro _ H ⟨x0,x1,x2,x3,x4,rfl,h0,h1,h2⟩;exact k x0 x1 x2 x3 x4 H h0 h1 h2
def Ak6{A0 A1 A2 A3 A4 A5:Type}{S:A0->A1->A2->A3->A4->A5->St}{p0 p1 p2 p3:A0->A1->A2->A3->A4->A5->?a9}[?E](k:∀x0 x1 x2 x3 x4 x5 H,?YO p0->?YO p1->?YO p2->?YO p3->let s:=(?NY);?cW):?XM (Ex6 λx0 x1 x2 x3 x4 x5=>Er (σ=?NY) (?a26 p0) (?a26 p1) (?a26 p2) (?a26 p3)):=by
 rintro _ H ⟨x0,x1,x2,x3,x4,x5,rfl,h0,h1,h2,h3⟩;exact ?a0R H
def Ak5[?BO]{p0 p1 p2:?YH ?a9}[?E](k:∀x0 x1 x2 x3 x4 x5 x6 x7 H,?EK->?I1->?KS->?MI):?XM (wG λx0 x1 x2 x3 x4 x5 x6 x7=>Bw (σ=?jK) (?a1Y p0) (?a1Y p1) (?a1Y p2)):=by
 rintro _ H ⟨x0,x1,x2,x3,x4,x5,x6,x7,rfl,h0,h1,h2⟩;exact k x0 x1 x2 x3 x4 x5 x6 x7 H h0 h1 h2
def WI[?BO]{p0 p1 p2 p3 p4 p5 p6 p7:?YH ?a9}[?E](k:∀x0 x1 x2 x3 x4 x5 x6 x7 H,?EK->?I1->?KS->?XP p3->?XP p4->?XP p5->?XP p6->?XP p7->?MI):?XM (wG λx0 x1 x2 x3 x4 x5 x6 x7=>EA (σ=?jK) (?a1Y p0) (?a1Y p1) (?a1Y p2) (?a1Y p3) (?a1Y p4) (?a1Y p5) (?a1Y p6) (?a1Y p7)):=by
 rintro _ H ⟨x0,x1,x2,x3,x4,x5,x6,x7,rfl,h0,h1,h2,h3,h4,h5,h6,h7⟩;exact k x0 x1 x2 x3 x4 x5 x6 x7 H h0 h1 h2 h3 h4 h5 h6 h7
def Ak4{A0 A1 A2 A3 A4 A5 A6 A7 A8:Type}{S:?a00 St}{p0 p1 p2:?a00 ?a9}[?E](k:∀x0 x1 x2 x3 x4 x5 x6 x7 x8 H,?YL p0->?YL p1->?YL p2->let s:=(?CQ);?cW):?XM (Ex9 λx0 x1 x2 x3 x4 x5 x6 x7 x8=>Bw (σ=?CQ) (?a22 p0 H) (?a22 p1 H) (?a22 p2 H)):=by
 rintro _ H ⟨x0,x1,x2,x3,x4,x5,x6,x7,x8,rfl,h0,h1,h2⟩;exact k x0 x1 x2 x3 x4 x5 x6 x7 x8 H h0 h1 h2
def yM{A0 A1 A2 A3 A4 A5 A6 A7 A8 A9:Type}{S:?ZG St}{p0 p1 p2 p3:?ZG ?a9}[?E](k:∀x0 x1 x2 x3 x4 x5 x6 x7 x8 x9 H,?XY p0->?XY p1->?XY p2->?XY p3->let s:=(?CZ);?cW):?XM (jQ λx0 x1 x2 x3 x4 x5 x6 x7 x8 x9=>Er (σ=?CZ) (?a20 p0) (?a20 p1) (?a20 p2) (?a20 p3)):=by
 rintro _ H ⟨x0,x1,x2,x3,x4,x5,x6,x7,x8,x9,rfl,h0,h1,h2,h3⟩;exact k x0 x1 x2 x3 x4 x5 x6 x7 x8 x9 H h0 h1 h2 h3
def Kg{S:St}[?E]{H0:Hp}(k:let s:=S;G s H0):?XM (σ=S/\H0=H):=by
 rintro _ _ ⟨rfl,rfl⟩;exact k
def Al7[?c1][?E]{H0:Hp}(k:∀x0,?yQ):?XM (Dx λx0=>?mA/\H0=H):=by
 rintro _ _ ⟨x0,rfl,rfl⟩;exact k x0
def Al6[?c1]{p0:?gF}[?E]{H0:Hp}(k:∀x0,?PK->?yQ):?XM (?a2T (H0=H) ?fO):=by
 rintro _ _ ⟨x0,rfl,rfl,h0⟩;exact k x0 h0
def WK[?c1]{p0 p1:?gF}[?E]{H0:Hp}(k:∀x0,?PK->p1  x0 H0->?yQ):?XM (Dx λx0=>Bw ?eO (H0=H) ?fO ?i4):=by
 rintro _ _ ⟨x0,rfl,rfl,h0,h1⟩;exact ?F0
def ex2{A0 A1:Type}{p:?m6}{G:Prop}(k:∀x0 x1,p x0 x1->G)(h:∃x0 x1,p x0 x1):G:=h.elim λx0 h=>h.elim λx1 h=>k x0 x1 h
def Bl4{p0 p1 p2 G:Prop}(k:p0->p1->p2->G)(h:p0/\p1/\p2):G:=k h.1 ?l7 ?mI
section
variable{g:TG}{x:V}{t1 t2 t3 t4 t5 t6 t7 t8 t9 HQ oZ t12 t13 t14:TS}{D:Ends}{σ:St}{H:Hp}
def uZ{tc:St->?a2B Hp (?I7)}{k:?I7}(h:let k':=k;tc σ H k'):tc σ H k:=h
def letG1(h:let D':=D;?a18 D'):?a18 D:=h
def let2(h:let D':=D;let u2:TS:=t2;?SL):Aq t1 t2 D σ H:=h
def let3(h:let D':=D;let u3:TS:=t3;?IK):Aq t1 (Aq t2 t3) D σ H:=h
def letG3(h:let D':=D;let u3:TS:=t3;?RQ):?Y2 t3:=h
def let4(h:let D':=D;let u4:TS:=t4;?SG):Aq t1 (Aq t2 (Aq t3 t4)) D σ H:=h
def letG4(h:let D':=D;let u4:TS:=t4;?N7):?Y2 (Aq t3 t4):=h
def let5(h:let D':=D;let u5:TS:=t5;?LI):?XN t5:=h
def let6(h:let D':=D;let u6:TS:=t6;?KO):?XN (Aq t5 t6):=h
def letG6(h:let D':=D;let u6:TS:=t6;let u5:TS:=?IO;let u4:TS:=?E3;?N7):?Y2 (Aq t3 (Aq t4 (Aq t5 t6))):=h
def let7(h:let D':=D;let u7:TS:=t7;?DP):?XN (Aq t5 (Aq t6 t7)):=h
def let8(h:let D':=D;let u8:TS:=t8;?I8):?XN (?a25 t8):=h
def let9(h:let D':=D;let u9:TS:=t9;?FF):?XN (?a25 (Aq t8 t9)):=h
def let12(h:let D':=D;let u12:TS:=t12;?RV):?XN (?a25 (?a31 t12)):=h
def let14(h:let D':=D;let u14:TS:=t14;let u13:TS:=Aq t13 u14;let u12:TS:=Aq t12 u13;?RV):?XN (?a25 (?a31 (Aq t12 (Aq t13 t14)))):=h
universe e9
universe Hb
local macro_rules|`(tactic|infer_instance)=>`(tactic|first|(apply Hb.let14 ?_;intro _ _ _ _ _ _ _ _ _ _ _ _ _ _)|(apply Hb.let12 ?_;intro _ _ _ _ _ _ _ _ _ _ _ _)|(apply Hb.let9 ?_;intro _ _ _ _ _ _ _ _ _)|(apply Hb.let8 ?_;intro _ _ _ _ _ _ _ _)|(apply Hb.let7 ?_;intro _ _ _ _ _ _ _)|(apply Hb.let6 ?_;intro _ _ _ _ _ _)|(apply Hb.let5 ?_;intro _ _ _ _ _)|(apply Hb.let4 ?_;intro _ _ _ _)|(apply Hb.let3 ?_;intro _ _ _)|(apply Hb.let2 ?_;intro _ _))
local macro_rules|`(tactic|and_intros)=>`(tactic|first|(apply Hb.letG6 ?_;intro _ _ _ _ _ _)|(apply Hb.letG4 ?_;intro _ _ _ _)|(apply Hb.letG3 ?_;intro _ _ _)|(apply Hb.letG1 ?_;intro _))
namespace Hb
open PySem L2
def qU[?c1]{p0:?Q1}[?aJ](k:∀x0,?oX->?AR):?XS (Dx λx0=>?mA/\?oX):=by
 rintro _ ⟨x0,rfl,h0⟩;exact k x0 h0
def XG[?c1]{p0 p1:?Q1}[?aJ](k:∀x0,?oX->p1 x0->?AR):?XS (?a2T (?oX) (p1 x0)):=by
 rintro _ ⟨x0,rfl,h0,h1⟩;exact ?F0
def Hj[?c1]{p0 p1 p2:Prop}[?aJ](k:p0->p1->p2->?L8):?XS (Bw (p0) (p1) (p2) (Dx λx0=>?mA)):=by
 rintro _ ⟨h0,h1,h2,x0,rfl⟩;exact k h0 h1 h2 x0
def XA[?c1]{p0 p1 p2 p3:Prop}[?aJ](k:p0->p1->p2->p3->?L8):?XS (Er (p0) (p1) (p2) (p3) (Dx λx0=>?mA)):=by
 rintro _ ⟨h0,h1,h2,h3,x0,rfl⟩;exact k h0 h1 h2 h3 x0
def xG[?c0]{p0:?m6}[?aJ](k:∀x0 x1,?eX->?l9):?XS (F1 λx0 x1=>?mH/\?eX):=by
 rintro _ ⟨x0,x1,rfl,h0⟩;exact k x0 x1 h0
def kQ[?c0]{p0 p1:?m6}[?aJ](k:∀x0 x1,?eX->?hF->?l9):?XS (F1 λx0 x1=>Dw ?dX (?eX) (?hF)):=by
 rintro _ ⟨x0,x1,rfl,h0,h1⟩;exact k x0 x1 h0 h1
def Wn[?c0]{p0 p1 p2:?m6}[?aJ](k:∀x0 x1,?eX->?hF->?tE->?l9):?XS (F1 λx0 x1=>Bw ?dX (?eX) (?hF) (?tE)):=by
 rintro _ ⟨x0,x1,rfl,h0,h1,h2⟩;exact k x0 x1 h0 h1 h2
def Zp[?c0]{p0 p1 p2:Prop}[?aJ](k:p0->p1->p2->?TY):?XS (Bw (p0) (p1) (p2) (F1 λx0 x1=>?mH)):=by
 rintro _ ⟨h0,h1,h2,x0,x1,rfl⟩;exact k h0 h1 h2 x0 x1
def QS[?c0]{p0 p1 p2 p3:Prop}[?aJ](k:p0->p1->p2->p3->?TY):?XS (Er (p0) (p1) (p2) (p3) (F1 λx0 x1=>?mH)):=by
 rintro _ ⟨h0,h1,h2,h3,x0,x1,rfl⟩;exact k h0 h1 h2 h3 x0 x1
def XF[?c0]{p0 p1 p2 p3 p4:?m6}[?aJ](k:∀x0 x1,?eX->?hF->?tE->?HZ->?VH->?l9):?XS (F1 λx0 x1=>G9 ?dX (?eX) (?hF) (?tE) (?HZ) (?VH)):=by
 rintro _ ⟨x0,x1,rfl,h0,h1,h2,h3,h4⟩;exact k x0 x1 h0 h1 h2 h3 h4
def xF[?f0]{p0:?qB}[?aJ](k:∀x0 x1 x2,?e0->?oQ):?XS (Ut λx0 x1 x2=>σ=?qS/\?e0):=by
 rintro _ ⟨x0,x1,x2,rfl,h0⟩;exact k x0 x1 x2 h0
def XE[?f0]{p0 p1:?qB}[?aJ](k:∀x0 x1 x2,?e0->?gP->?oQ):?XS (Ut λx0 x1 x2=>Dw ?g8 (?e0) (?gP)):=by
 rintro _ ⟨x0,x1,x2,rfl,h0,h1⟩;exact k x0 x1 x2 h0 h1
def xE[?f0]{p0 p1 p2:?qB}[?aJ](k:∀x0 x1 x2,?e0->?gP->?sU->?oQ):?XS (Ut λx0 x1 x2=>Bw ?g8 (?e0) (?gP) (?sU)):=by
 rintro _ ⟨x0,x1,x2,rfl,h0,h1,h2⟩;exact k x0 x1 x2 h0 h1 h2
def KP[?f0]{p0 p1 p2 p3 p4:?qB}[?aJ](k:∀x0 x1 x2,?e0->?gP->?sU->?F5->?LL->?oQ):?XS (Ut λx0 x1 x2=>G9 ?g8 (?e0) (?gP) (?sU) (?F5) (?LL)):=by
 rintro _ ⟨x0,x1,x2,rfl,h0,h1,h2,h3,h4⟩;exact k x0 x1 x2 h0 h1 h2 h3 h4
def XD[?tM]{p0 p1 p2:A0->A1->?a2B A2 A3}[?aJ](k:∀x0 x1 x2 x3,?GO->?U7->?a2W ?P4 ?hO):?XS (Xy λx0 x1 x2 x3=>Bw (σ=?hO) (?GO) (?U7) (?P4)):=by
 rintro _ ⟨x0,x1,x2,x3,rfl,h0,h1,h2⟩;exact k x0 x1 x2 x3 h0 h1 h2
def XC[?X3]{p0 p1 p2:A0->A1->A2->?a2B A3 A4}[?aJ](k:∀x0 x1 x2 x3 x4,?CV->?FO->?a2W ?UN ?BC):?XS (eE λx0 x1 x2 x3 x4=>Bw ?H6 (?CV) (?FO) (?UN)):=by
 rintro _ ⟨x0,x1,x2,x3,x4,rfl,h0,h1,h2⟩;exact k x0 x1 x2 x3 x4 h0 h1 h2
def xC{A0 A1 A2 A3 A4 A5 A6:Type}{S:A0->A1->A2->A3->A4->A5->A6->St}{p0 p1 p2 p3:A0->A1->A2->A3->A4->?a2B A5 A6}[?aJ](k:∀x0 x1 x2 x3 x4 x5 x6,?V4->?PH->?GF->?a2W ?TE ?NN):?XS (WG λx0 x1 x2 x3 x4 x5 x6=>Er (σ=?NN) (?V4) (?PH) (?GF) (?TE)):=by
 rintro _ ⟨x0,x1,x2,x3,x4,x5,x6,rfl,h0,h1,h2,h3⟩;exact ?a0R x6
def xB[?BO]{p0 p1 p2 p3:A0->A1->A2->A3->A4->A5->?a2B A6 A7}[?aJ](k:∀x0 x1 x2 x3 x4 x5 x6 x7,?EM->?KN->?GP->?a2W ?L2 ?jK):?XS (wG λx0 x1 x2 x3 x4 x5 x6 x7=>Er (σ=?jK) (?EM) (?KN) (?GP) (?L2)):=by
 rintro _ ⟨x0,x1,x2,x3,x4,x5,x6,x7,rfl,h0,h1,h2,h3⟩;exact k x0 x1 x2 x3 x4 x5 x6 x7 h0 h1 h2 h3
universe Hb
namespace L2
open PySem PySem.Spec PyProof.Rows
section
variable[?n2][?V][?C3]{ds:?yP}
universe e9
universe L2
namespace L2
open PySem PySem.Spec PyProof.Rows PySem.W
section
variable[?X5]{sp:Sp}{m:Str}{pos apos:Pos}{e o:Expr}[?f3]{ta:TE}{t:TA}
universe e9
section
variable[?n2]{K:Frag}[?C3]{ds:?yP}
universe e9
section
variable[?X5]{dvs:?x}{sp:Sp}{m x:Str}{p pos apos:Pos}{e o:Expr}[?f3]{ta:TE}{t:TA}
universe e9
universe L2
namespace L2
open PySem PySem.Spec PyProof.Rows
abbrev C5[?F](n:Str)(st:Stmt):Prop:=∃(f:Addr) (fd:FuncData),W.nsIn K ?QX n=?c (?c (?p f))/\?EG
abbrev Sk[?F](C:Addr)(n q:Str)(st:Stmt):Prop:=∃(f:Addr) (fd:FuncData),W.findIn K ?B2 n=?c (?c (?p f))/\W.isFn K (?p f)=true/\?LH
abbrev BA(x q:Str)(st:Stmt)(ps:?u):Prop:=∀(kV doc pm:Value) (an:OAddr) (Dp ct:Value) (us:?yP),?NI->bindArgs (W.fnOf x q (Ix st) (Go st) (As st) ?dG kV doc pm an Dp ct) #[us,[]]=pure (ps.zip us)
section
variable[?n2][?V]{mg:?z4}{base h:Heap}
def Bq(X:K.In h)(G:h.Ns ?QX mg){n:Str}[?BZ](d:C5 K n st)(ok:∀{f fd},?EG->?zS)(hb:BA n n st ps):Has P w K mg ?a1 n ps k sp:=by
 let#[f,fd,a,F]:=d;exact#[_,_,qv7 X G a,F.kp,?zV,ok F]
def Iw{C:Addr}{n q:Str}[?BZ](d:Sk K C n q st)(ok:∀{f fd},?LH->?zS)(hb:BA n q st ps):Ka P w K mg ?a1 C n ps k sp:=by
 let ?K2:=d;exact#[_,_,#[a,b,F.kp],?zV,ok F]
def dG{C:Addr}{q:Str}[?BZ](m:PySem.W.makesIn K C=true)(kc:W.keepIn K ?B2=true)(d:Sk K C ?oY q st)(ok:∀{f fd},Et K ?oY q st f fd->?zS)(hb:BA ?oY q st ps):GZ P w K mg ?a1 C ps k sp:=by
 let ?K2:=d;exact#[_,_,#[m,a,b,kc],?zV,ok F]
universe e9
universe L2
namespace Hb
open PySem L2
abbrev top(i:Nat):Stmt:=PySem.Challenge.pw_holebook_k70_a_book_by_hand.main.body.getD i (.Pass #[0,0,0,0])
structure Fj[?F](mg:?z4)(Af Ad Ah Au:Addr):Prop where
 m_Lines:mg "Lines"=?c (?p Af)
 cl_Lines:Cls K Af
 na_Lines_rows:Do K Af ?t1
 na_Lines_backs:Do K Af ?p8
 m_Stairs:mg "Stairs"=?c (?p Ad)
 cl_Stairs:Cls K Ad
 na_Stairs_rows:Do K Ad ?t1
 na_Stairs_backs:Do K Ad ?p8
 na_Stairs_starts:Do K Ad "starts"
 m_Work:mg "Work"=?c (?p Ah)
 cl_Work:Cls K Ah
 na_Work_table:Do K Ah ?gX
 na_Work_width:Do K Ah ?wP
 na_Work_left:Do K Ah "left"
 na_Work_right:Do K Ah "right"
 na_Work_numbers:Do K Ah "numbers"
 m_Book:mg "Book"=?c (?p Au)
 cl_Book:Cls K Au
 na_Book_pieces:Do K Au ?LM
 na_Book_levels:Do K Au ?PU
 na_Book_lifts:Do K Au ?v6
 x_GAPS:∃a,?ZZ "GAPS" [32,16,8,4,2]
 x_FACE_COUNTS:∃a,?ZZ "FACE_COUNTS" [0,2,3,4]
 x_MOST_ROWS:∃t,mg "MOST_ROWS"=?c (?f 40 t)
 x_LEVELS:∃t,mg "LEVELS"=?c (?f 4 t)
 x_MOST_PIECES:∃t,mg "MOST_PIECES"=?c (?f 40 t)
 n_isinstance:?YG ?AN
 n_int:?YG "int"
 n_bool:?YG ?B9
 n_tuple:?YG ?yB
 n_zip:?YG "zip"
 n_max:?YG "max"
 n_len:?YG "len"
 n_all:?YG "all"
 n_range:?YG "range"
 n_dict:?YG "dict"
 n_any:?YG "any"
 n_sum:?YG "sum"
 n_list:?YG ?nV
 n_enumerate:?YG ?eN
 n_min:?YG "min"
def qI:([?cB]:?u).Nodup:=?n
def wZ:(?JO:?u).Nodup:=?n
def Ar6:(["face",?c6,"level"]:?u).Nodup:=?n
def WY:([?c8,?cB,?c6,"k"]:?u).Nodup:=?n
def Ar5:(["k",?c6,"thing"]:?u).Nodup:=?n
def wY:(?NC:?u).Nodup:=?n
def wX:(?MD:?u).Nodup:=?n
def WW:([?c8,?xB,"k"]:?u).Nodup:=?n
def qD:([?eH,?wP]:?u).Nodup:=?n
def Ar4:([?eH,?mB,?wP]:?u).Nodup:=?n
def zT:(["j",?gX]:?u).Nodup:=?n
def ZS:(?TQ:?u).Nodup:=?n
def zS:(["i","size"]:?u).Nodup:=?n
def ZR:(?L9:?u).Nodup:=?n
def QH:(?TB:?u).Nodup:=?n
def zR:([?c8,"below",?c6]:?u).Nodup:=?n
def ZQ:(?SE:?u).Nodup:=?n
def qH:([?c8,?cB]:?u).Nodup:=?n
def QG:([?eH,"paper"]:?u).Nodup:=?n
def qG:(?PY:?u).Nodup:=?n
def zQ:(["parts"]:?u).Nodup:=?n
def IL:([?t4]:?u).Nodup:=?n
def ZP:(["part"]:?u).Nodup:=?n
def zP:(?pH:?u).Nodup:=?n
def QF:([?cB,"after"]:?u).Nodup:=?n
def ZO:([?c8,?c6,"holes",?v6]:?u).Nodup:=?n
def cU:(["k","told",?c6]:?u).Nodup:=?n
def qF:([?xB,"lift",?c6]:?u).Nodup:=?n
def zO:([?t4,?c6,"k"]:?u).Nodup:=?n
def ZN:(["edge",?t4]:?u).Nodup:=?n
def QE:(["j",?mB,?t4,"i"]:?u).Nodup:=?n
def zN:([?c8,?c6]:?u).Nodup:=?n
def qE:(["_law_i"]:?u).Nodup:=?n
def QD:(["_law_k","_law_book"]:?u).Nodup:=?n
section
variable[?n2][?V][?C3]{Af Ad Ah Au:Addr}
noncomputable abbrev Ry:Stmt:=top 1
def EV:?aT ?iO ?iO (As Ry):=Bg
def FJ[?b0](F:Et K ?HK ?HK Ry f fd)[?aZ] :?XL ?iO I0:=by
 apply ?YE EV;let#[x,d,rfl,hx,k]:=h;apply(?a21 (L3 (?Y4 (Gm (v:=.ty "int") rfl T.n_int boot_intT rfl)) (Kw (ZE (?Y4 (Gm (v:=.ty ?B9) rfl T.n_bool g7 rfl))))));apply#[_,rfl,_,_,d,rfl,?zC,hx,_,rfl,?_];apply ite2 ?OV ?OV
 . apply#[_,rfl,_,_,d,rfl,?o ?b3,hx,_,rfl,?_];have e2:Rp d=!MQ ?B9 d:=by unfold Rp;rw[e];rfl
   rw[e2]at k;exact k
 . have e2:Rp d=false:=by unfold Rp;simp[e]
   rw[e2]at k;exact k
noncomputable abbrev Ia:Stmt:=top 3
def Cv:?aT ["one",?mB,"last","now",?ET,"rest"] ?UZ (As Ia):=Bg
def Tu[?b0](F:Et K ?G1 ?G1 Ia f fd)[?aZ] :?XL ?UZ Wj:=by
 apply ?YE Cv;let#[n,p,rfl,hA,hB,lA,lB,k]:=h
 apply#[_,(Ag (?ZL 2 ?G)
  (Ag (?ZL 3 ?a4)
  (Ag (Ts qd1 (Bo Jb (?Z6 ?cL) Al ?cE) (Ag (?a38 4 (Bk Kx (?Z6 ?aS) (?Z6 ?cL)))
  (Ag (?a38 5 (?a2Z (Bt (N':=?JO) (cap:=[none,none,?c 4]) ?y ?dS (?a0N UH ?aS) (?a1Z wZ wZ) ?eW (?XR (Bk N4 ?G (Bk N5 ?aS ?a4))))))
  (Ag (?a38 2 ?cL)
  (Am (?a38 3 (pv 5)))))))
  (Ag (?a2U (Bo AV (?Z6 ?aS) Al ?cE) (?a2Z (Bt (N':=[?cB]) (cap:=[none]) ?y ?dS (DB (K:=K) ?aS) (?XR (Ap (i:=0) qI)) ?eW (?XR (My Hu ?G)))))
  (?a35 ?aS))))),?_]
 ext f5
 apply#[_,rfl,?sA,λL0 hL0=>?_];have s0:?H H (?YP 0):=?cA hL0;apply#[_,rfl,?sA,λN0 hN0=>?_];have s1:?H (?YP 0) (?FS):=?cA hN0;apply Hv (λσ' H'=>σ'=[iS n,iS p,rS L0,rS N0,none,none]/\H'=?FS) ?_ ?T1;rintro _ _ ⟨rfl,rfl⟩;apply ?a08 (λσ' H'=>Ex9 λ ?yN (a x y u v:Int) ?w3=>Bw ?D4 (?W) (SqT K H' L ?k3) (?a2V a 0))
 . apply#[λm σ G=>jQ λ ?yN (a x y b u v:Int) ?w3=>Xg (σ=?TI) (?H H G) (SqT K G L ?k3) (SqT K G N ?u8) (?a2V a b) (a.natAbs<L9) (b.natAbs<L9) (m=b.natAbs),#[_,L0,N0,n,1,0,p,0,1,?aU,?aU,rfl,s0.trans s1,.of (s1 _ _ Ab),?jR,Lat.EuI.start hA hB,lA,lB,rfl],?_];rintro m σ G Ea;apply uZ ?_;intro _;let#[L,N,a,x,y,b,u,v,o4,o5,rfl,s2,hL,hN,hE,la,lb,rfl]:=Ea;apply(?a0I N hN);ext eZ
   . have hb0:¬b=0:=?aN
     let#[hE2,hlt]:=hE.step hA hb0;let#[_,_,_,_,lu,lv]:=hE.all hA hB
     have lq:?V2<L9:=by
      apply qc2 ?_ la;have h3:(?bL*b).natAbs<=a.natAbs+(a-?bL*b).natAbs:=O9m
      rw[qb6]at h3;have h4:0<b.natAbs:=Int.natAbs_pos.mpr hb0;apply qh7 λh5=>?_;have h6:=qc0 b.natAbs (show a.natAbs+1<=?V2 from h5);rw[qg0,qf9]at h6;have h7:=qf3 a.natAbs h4;omega
     have ok:∀z:Int,z.natAbs<L9->?fZ (?bL) z:=λz hz=>cV lq hz;apply#[λσ' G'=>jQ λ ?yN (a' x y b' u v:Int) ?w3=>Xg ?D4 (?H5) (SqT K G' L [?f a',?f x,?f y]) (SqT K G' N [?f b',?f u,?rW]) (?a2V a' b') (a'.natAbs<L9) (b'.natAbs<L9) (b'.natAbs<b.natAbs),?_,?_]
     . rintro σ' G' ⟨L',N',a',x',y',b',u',v',o4',o5',rfl,q1,q2,q3,q4,q5,q6,q7⟩;exact#[b'.natAbs,q7,L',N',a',x',y',b',u',v',o4',o5',rfl,q1,q2,q3,q4,q5,q6,rfl]
     apply#[_,rfl,L,_,_,_,rfl,rfl,hL,rfl,_,rfl,N,_,_,_,rfl,rfl,hN,rfl,_,_,rfl,rfl,V9.of9 hb0 lb,?_];apply#[_,rfl,_,rfl,L,N,rfl,#[_,hL],#[_,hN],?eF]
     have gv:∀(i:Nat) (e f:V),?a1T ?k3 e->?a1T ?u8 f->∃e' f':Int,e=?f e'/\f=?f f'/\?fZ (?bL) f'/\i<3 ∧
      ?a1T ?sW (?f (e'-?bL*f')):=by
      intro i e f he hf
      match i,he,hf with
      | 0,he,hf=>cases he;cases hf;exact#[a,b,rfl,rfl,ok _ lb,?aF,rfl]
      | 1,he,hf=>cases he;cases hf;exact#[x,u,rfl,rfl,?HU,?aF,rfl]
      | 2,he,hf=>cases he;cases hf;exact#[y,v,rfl,rfl,?HU,?aF,rfl]
      | i+3,he,hf=>simp at he
     apply jH (K:=K) (a:=L) (b:=N) (xs:=?k3) (ys:=?u8) (n:=3) ?fB (λi zs τ G1=>Bw (?H G G1) (G1 D=?hT) (zs=(?sW:?x).take i) (?YJ ?c (?f (?bL))))
      ?V6 (λi zs τ G1 _ hz=>by let#[s3,_]:=hz;exact#[s3.seqT hL,s3.seqT hN]) ?_ ?_
     . rintro i e f zs τ G1 pr he hf Ea qX;revert τ;apply Zp ?_;intro s3 dH hzs o1 o2 Fv;let#[e',f',rfl,rfl,hok,hi3,hnext]:=gv i e f he hf;have sp:?H G1 (upd G1 pr (?aB [?f e',?f f'])):=?cA qX;ext BQ;apply#[_,rfl,_,rfl,_,rfl,_,_,rfl,rfl,hok,_,_,rfl,rfl,?_];apply#[sp _ _ dH,?eK (by rw[hzs,qe2];omega),(?EY sp).turn hD,Ab,?_,_,_,rfl];rw[qf8,hnext,hzs];rfl
     . ext VR;have Ab1:zs=?sW:=hzs;have hT2:SqT K (upd G1 T1 (?aB zs)) T1 ?sW:=?OQ
       exact#[_,rfl,_,rfl,N,T1,b,u,v,a-?bL*b,x-?bL*u,y-?bL*v,_,_,rfl,(?oE s3).trans s4,(?EY s4).seqT hN,hT2,hE2,lb,qs5 hlt lb,hlt]
   . have hb0:b=0:=?aN
     subst hb0;exact key _ _ #[L,N,a,x,y,u,v,o4,o5,rfl,s2,hL,hE]
 apply Ak4 λL N a x y u v o4 o5 G s2 hL hE=>?_;intro sq;let#[e1,e2,e3]:=hE.last hA hB;apply#[_,rfl,L,_,_,_,rfl,rfl,hL,rfl,_,_,rfl,rfl,_,rfl,?_];ext eZ
 . have ha:a<0:=?aN
   apply(?YW L hL)
   let Pq1:?f9:=λi zs τ G1=>Bw (?H G G1) (G1 D=?hT) (zs=(?B8:?x).take i) (Dx λo1=>τ=[o1])
   apply BP (K:=K) (a:=L) (xs:=?k3) Pq1
    ?p9 (λi zs τ G1 _ hz=>by let#[s3,_]:=hz;exact s3.seqT hL) ?_ ?_
   . rintro i e zs τ G1 he Ea;revert τ;apply Hj ?_;intro s3 dH hzs o1 Fv
     have gv:∃e':Int,e=?f e'/\i<3/\?a1T ?B8 (?f (-e')):=by
      match i,he with
      | 0,he=>cases he;exact#[a,rfl,?aF,rfl]
      | 1,he=>cases he;exact#[x,rfl,?aF,rfl]
      | 2,he=>cases he;exact#[y,rfl,?aF,rfl]
      | i+3,he=>simp at he
     let#[e',rfl,hi3,hnext]:=gv;apply#[_,rfl,_,rfl,dH,?eK (by rw[hzs,qe2];omega),s3.turn hD,Ab,?_,_,rfl];rw[qf8,hnext,hzs];rfl
   . ext VR;have Ab1:zs=?B8:=hzs;exact k T1 (-a) (-x) (-y) _ ((?oE s3).trans s4) (?OQ) (e2 ha)
 . have ha:¬a<0:=?aN
   exact#[_,rfl,k L a x y G s2 hL (e1 O9m)]
noncomputable abbrev Rx:Stmt:=top 6
def eV:?aT ?pH ?pH (As Rx):=Bg
def fJ[?b0](F:Et K ?OL ?OL Rx f fd)[?aZ] :?XL ?pH Gy:=by
 apply ?YE eV;let#[x,ds,rfl,hx,k]:=h;apply(?a21 (Aw (NV ?y) T.n_max OA (Aa (Bk N4 (?YC ?G) Al) (Aa Al Ac))))
 obtain⟨p,us,e,hq,hl⟩:∃(p:Addr) (us:?x),x=?lV/\(?a09 p us\/SqT K H p us)/\us.length=ds.length:=by
  rcases hx with⟨p,us,e,hq,r⟩|⟨p,us,e,hq,r⟩
  . exact#[p,us,e,?i hq,?wI]
  . exact#[p,us,e,?o hq,?wI]
 subst e;apply#[_,rfl,p,us,rfl,hq,_,_,rfl,rfl,_,_,rfl,?_];rw[hl];exact k
noncomputable abbrev Lu:Stmt:=top 9
def Kn:?aT [?c6,"faces","j","i"] ?LF (As Lu):=Bg
def Y6[?b0](F:Et K ?PO ?PO Lu f fd)[?aZ] :?XL ?LF O9:=by
 apply ?YE Kn;let#[a,v,xs,p,rfl,hL,hv,Q0,hf,k]:=h;let#[pa,rfl,hq]:=hv.sq;have hpl:(p.map ?a7).length=p.length:=qa2 ..
 apply#[_,(Ag (C4 qd1 rfl (?a30 (?YC ?a4)) (?a32 2 Kn.nd) (Am (C4 qd1 rfl (?a30 ?aS) (?a32 3 Kn.nd) (Am (Cl (Bo Jb (Ay ?dJ (?ZK ?aS) ?cL ?bA) (Ay ?dJ (?ZK ?cL) (Bk N4 ?aS Al) ?bA) ?cE) ?rZ Bv)))))
  ?rZ),?_]
 ext f5
 apply#[_,rfl,pa,_,rfl,?o hq,_,rfl,O9m,O9m,?_];rw[hpl]
 let Pq2:?kG:=λj σ H2=>Dw (H=H2) ((∃o2 o3,σ=[rS a,rS pa,o2,o3])) (∀j' i',j'<j->i'<j'->Up xs p j' i'=true)
 apply Eh (lo:=0) (n:=((p.length:Nat):Int).toNat) Pq2
  #[rfl,#[?aU,?aU,rfl],λj' i' h=>?RP] ?_ ?_
 . rintro j σ H2 hj Ea
   and_intros
   let#[rfl,#[o2,o3,rfl],hall]:=Ea;have hj':?LA:=O9m
   apply#[_,rfl,_,rfl,O9m,O9m,?_]
   let Pq3:?kG:=λi σ H2=>Dw (H=H2) ((∃o3,σ=[rS a,rS pa,?c (?f (0+j)),o3])) (∀i',i'<i->Up xs p j i'=true)
   apply Eh (lo:=0) (n:=?UQ) Pq3
    #[rfl,?dZ,λi' h=>?RP] ?_ ?_
   . rintro i σ H2 hi Ea
     and_intros
     let#[rfl,#[o3,rfl],hall2]:=Ea;have hij:i<j:=O9m
     have mj:?qG∈p:=by rw[qa0,qa1 hj'];exact ?fT
     have mi:?qH∈p:=by ext f1;exact ?fT
     let#[j0,j1,j2]:=hf _ mj;let#[i0,i1,i2]:=hf _ mi;let#[_,z,hq1,at1]:=?a1H ?i3 hv;cases z;rw[show ?UQ=j by omega]at at1;let#[_,z,hq2,at2]:=?a1H ?vI hv;cases z;rw[?VB]at at2;let#[us1,v1,hu1,av1,tv1]:=LT.get hL j0 j1;let#[WL,v2,hu2,av2,tv2]:=LT.get hL i0 i1;let#[b1,e1,hb1,ab1]:=?a1H ?vI tv1;let#[b2,e2,hb2,ab2]:=?pF (i:=?i3-1) tv2 O9m O9m;subst e1 e2;rw[?VB]at ab1;rw[show(?i3-1).toNat=j-1 by omega]at ab2;apply#[_,rfl,_,rfl,_,rfl,pa,_,_,_,rfl,rfl,hq1,at1,a,us1,_,_,rfl,rfl,hu1,av1,_,rfl,b1,_,_,_,rfl,rfl,hb1,ab1,?_];apply#[_,rfl,_,rfl,_,rfl,pa,_,_,_,rfl,rfl,hq2,at2,a,WL,_,_,rfl,rfl,hu2,av2,_,rfl,_,_,rfl,rfl,b2,_,_,_,rfl,rfl,hb2,ab2,?_];apply#[rfl,_,rfl,?_];by_cases hag:?YI 0
     . apply Oz (eqI hag) ?_;apply#[rfl,?dZ,λi' h=>?_];by_cases hz:i'=i
       . subst hz;unfold Up;exact qe1 hag
       . exact ?OU
     . apply mT (neI hag) ?_
       have e2:Mi xs p=false:=by
        cases q:Mi xs p with
        | false=>rfl
        | true =>
          unfold Mi at q;rw[qd8]at q;have q2:=q j (?jB hj');rw[qd8]at q2;have q3:=q2 i (?jB hij);exact ?Q (qd5 q3) hag
       rw[e2]at k;exact k
   . rintro σ H2 ⟨rfl,⟨o3,rfl⟩,hall2⟩;apply#[rfl,#[_,_,rfl],λj' i' h1 h2=>?_];by_cases hz:j'=j
     . subst hz;exact ?OU
     . exact hall j' i' O9m h2
 . rintro σ H2 ⟨rfl,⟨o2,o3,rfl⟩,hall⟩
   have e2:Mi xs p=true:=by
    ext WU;ext j0;exact hall j i O9m (?eU)
   rw[e2]at k;exact k
noncomputable abbrev Yu:Stmt:=top 15
def aU:?aT [?gE,?c8,?cB,"total"] ?DB (As Yu):=Bg
def mH[?b0](F:Et K ?SJ ?SJ Yu f fd)[?aZ] :?XL ?DB Qi:=by
 apply ?YE aU;let#[a,ms,k,n,rfl,ha,hl,kq]:=h;have j8:=hr.u8
 apply#[_,(Ag (Av (i:=3) aU.nd (Bk Cc (Y2 ?sC ?G ?a4 Al ?tF) ?aS))
  (Am (Cl (?a36 ?cL Al) (Am (B8 (PR ?G ?a4 iE ?tF))) (Am (Nw ?sC ?G ?a4 ?cL ?y))))),?_]
 ext f5
 apply#[_,rfl,a,rfl,?i #[_,?i ha],_,rfl,_,DJ (?i ha),_,rfl,?b8,n,DV ms k,rfl,?_];apply ?TD;ext eZ
 . have e:?h3=0:=?aN
   unfold Jf at kq;rw[?dK]at kq;apply#[_,rfl,a,rfl,?i #[_,?i ha],_,rfl,?cS,?i k,ha,rfl,λv hv=>?_,λhn=>?_]
   . rw[VS];exact kq
   . rw[sA]at hn;have hn':?FV:=by simpa using hn
     have e2:?e5=ms:=by
      unfold Ht;rw[qr6];intro p hp
      have:¬?eR:=λz=>by
       have h3:?DE:=ql9.mpr #[p,hp,?rC];rw[Xx]at h3;let#[p',EC,e']:=?b5 h3;rw[←e']at hn'
       have:∀(ns:Ms),p'∈ns->lookI ns p'.1≠none:=by
        intro ns
        induction ns with
        | nil=>intro z;cases z
        | cons q ns ih =>
          intro hq;rw[Dm];split
          . exact ?RZ
          . rename_i hne
            rcases ?fI hq with rfl | hq
            . exact ?Q rfl hne
            . exact ih hq
       exact ?aG ms EC hn'
      ext n5
     rw[e2,YO ha]at kq;exact kq
 . have e:¬?h3=0:=?aN
   unfold Jf at kq;rw[?dR]at kq;exact#[_,rfl,_,rfl,_,rfl,a,_,rfl,vM ha hl,kq]
noncomputable abbrev cG:Stmt:=top 16
def pF:?aT ?xM ?xM (As cG):=Bg
def pY[?b0](F:Et K "times" "times" cG f fd)[?aZ] :?XL ?xM O8:=by
 apply ?YE pF;let#[n,a,ms,rfl,ha,hm,hok,k]:=h
 apply#[_,(Ag (?a2U (?a36 ?G Al) Fr)
  (?a35 (Gz (g6 ?y) ?y T.n_dict Oi (Aa (IE (Bt (N':=?NC) (cap:=[none,none,?c 0]) ?y ?dS (Ku ?a4) (?a1Z wY wY) ?eW (?XR (Fq (Aa ?G (Aa (Bk N5 ?aS ?a4) Ac)))))) Ac)))),?_]
 ext f5
 apply ?TD;ext eZ
 . have e:n=0:=?aN
   intro D hD;apply k D _ hD (?s1) ?_;rw[Ab];unfold timesI;rw[?dK];rfl
 have e:¬n=0:=?aN
 ext W0
 let Pq4:?f9:=λi zs τ H1=>Dx λ(ts:?eT)=>Oy (zs=ts.map ?dP) (ts.length=i) ((∀(j:Nat) t,ts[j]?=?c t->∃p:?bC,ms[j]?=?hP/\H1 t=?c (?aB [?f p.1,?VD])/\t≠D)) (H1 a=?c (.frz o ?hA)) (H1 D=?hT) ((?a1C a)) (?YJ iS n)
 apply Su (d:=a) (o:=o) (kvs:=?cS) Pq4
  #[[],rfl,rfl,(λj t z=>?PX),?_,Ab,?_,?aU,?aU,rfl] (?ZS #[_,_,_,_,e,_]) ?_ ?_
 . rw[?nR];exact Ab
 . ext WT
 . rintro i kk x zs τ H1 p hx ⟨ts,rfl,kR,hts,ha1,Fa,hk1,o1,o2,rfl⟩ hp;ext VS;ext BR;apply#[_,rfl,_,rfl,_,rfl,_,_,rfl,rfl,?RY,?sA,?NB];have st:=sp.trans (?cA (o:=?aB [?f q.1,?f (n*q.2)]) ht);have ntD:t≠D:=(At (?vG) ht).symm;apply#[st _ _ Fa,?eK (by rw[qa2];omega),ts++[t],?hC,by simp[kR],λj t' e2=>?_,?_,Ab,?NS,_,_,rfl]
   . rw[List.getElem?_append]at e2;split at e2
     . let#[p',HB,h2',h3']:=hts j t' e2;exact#[p',HB,by rw[Ak h3'];exact st _ _ h2',h3']
     . rename_i hj
       have hj0:j-ts.length=0:=by
        cases hz:j-ts.length with
        | zero=>rfl
        | succ m=>rw[hz]at e2;simp at e2
       rw[hj0]at e2;have et:t=t':=?G8
       subst et;apply#[q,by rw[?YS j i];exact hq,?_,ntD];rw[Ak ntD];exact Ab
   . rw[?nR];exact st _ _ ha1
   . have:=?V9;rw[?a0M Ak];exact st _ _ ?aG
 . rintro zs τ H1 ⟨ts,rfl,kR,hts,ha1,Fa,hk1,_⟩;rw[Ga]at kR;apply#[ha1,D,ts,cK (?a0G n),rfl,(by rw[Ak ZU];exact Fa),(by rw[Ga,qa2];exact kR),λi t e2=>?_,λE hE=>?_]
   . let#[p,HB,h2',_]:=hts i t e2;apply#[(?i p.1,?VD),?_,?_]
     . unfold cK;rw[qb4,qb4,HB];rfl
     . have nta:t≠a:=Fh h2' ha1 (?RZ);rw[Ak nta];exact h2'
   . have s1:?H H (upd H1 a ?hA):=λc q e2=>by
      by_cases z:c=a
      . subst z;rw[ha]at e2;cases e2;exact Ab
      . rw[Ak z];exact ?VK
     apply k E _ (s1.free hE) (?A3 (?cA hE)) ?_;rw[Ab];have hnd':?eB:=Ty.mp hnd;rw[N6 _ [] (by rw[qn4];exact Ty.mpr (iL hnd' n))];unfold timesI;rw[?dR,qn4]
noncomputable abbrev CF:Stmt:=top 17
def PD:?aT ?AL ?AL (As CF):=Bg
def PX[?b0](F:Et K "weigh" "weigh" CF f fd)[?aZ] :?XL ?AL Yc:=by
 apply ?YE PD;let#[a,b,ms,ns,rfl,ha,hb,nab,hm,hok,k]:=h;have j8:=hr.u8;apply#[_,(?a35 (Aw (IT (K:=K) ?y) T.n_sum NZ (Aa (IE (Bt (N':=?MD) (cap:=?NR) ?y ?dS (Ku ?G) (?a1Z wX wX) ?eW (?XR (Bk N5 ?a4 (Y2 ?sC ?aS ?G Al ?tF))))) Ac))),?_];ext W0
 let Pq5:?f9:=λi zs τ H1=>Er (zs=((ms.take i).map λp=>p.2*?RD).map ?a7) (H1 a=?c (.frz o ?hA)) (H1 D=?hT) ((?a1C a)) (?YJ rS b)
 apply Su (d:=a) (o:=o) (kvs:=?cS) Pq5
  #[rfl,?_,Ab,?_,?aU,?aU,rfl] (?ZS #[_,e,_]) ?_ ?_
 . rw[?nR];exact Ab
 . ext WT
 . rintro i kk x zs τ H1 p hx Ea hp;revert τ;apply QS ?_;intro hz1 ha1 Fa hk1 o1 o2 Fv;subst hz1;ext VS
   have hb1:Rd H1 b (?a2Q ns):=by
    rcases hb with h|⟨z,h⟩
    . exact ?i (?OR)
    . exact ?o #[z,?OR]
   have hb2:=kG sp hb1;ext BR;apply#[_,rfl,_,rfl,b,rfl,?i #[_,hb2],_,rfl,_,DJ hb2,q.2,Br ns q.1,rfl,DV ns q.1,?RY,?_];apply#[?vG,?eK ?fX,?_,?_,Ab,?NS,_,_,rfl]
   . rw[qp9,hq,qb0,qb0];rfl
   . rw[?nR];exact sp _ _ ha1
   . rw[?a0M Ak];exact sp _ _ (?V9)
 . rintro zs τ H1 ⟨rfl,ha1,Fa,hk1,_⟩;rw[Ga,qe7]at Fa;apply#[ha1,D,_,rfl,.of (by rw[Ak ZU];exact Fa),k _ λc q e2=>?_];by_cases z:c=a
   . subst z;rw[ha]at e2;cases e2;exact Ab
   . rw[Ak z];exact ?VK
noncomputable abbrev Ic:Stmt:=top 29
def Tp:?aT ?iO ?iO (As Ic):=Bg
def Tw[?b0](F:Et K ?OZ ?OZ Ic f fd)[?aZ] :?XL ?iO kC:=by
 apply ?YE Tp;let#[v,xs,rfl,hL,hx,k]:=h;let#[Q7,aE]:=T.x_MOST_PIECES;let#[a,us,rfl,hq,r]:=id hL;have hl:us.length=xs.length:=by have:=r.length;ext n5
 apply(?a21 (L3 (?Y4 (Gm (v:=.ty ?nV) rfl T.n_list Fc rfl)) (Kw (D8 pW (?YC ?G) (Iu (v:=?f 40) ?y aE ?dZ) ?cE))));apply#[_,rfl,?K,?nV,_,rfl,?o (?o (?o (?o ?b3))),hL,_,rfl,?_];apply mT ?y ?_;apply#[_,rfl,a,_,rfl,?i hq,_,_,rfl,rfl,?_];show Q (.bl (?j ((us.length:Int)<=40))) H;rw[qe1 ?d];exact k
noncomputable abbrev Ys:Stmt:=top 39
def lZ:?aT ?wF ?wF (As Ys):=Bg
def mG[?b0](F:Et K ?HT ?HT Ys f fd)[?aZ] :?XL ?wF aQ:=by
 apply ?YE lZ;let#[v,h,w,j,f,rfl,hv,hh,hj,k]:=h;let#[a,us,rfl,hq,Zv,Oc]:=Hn hv;apply(?a21 (Bt (N':=?TQ) (cap:=?yD) ?y ?dS (Cg (K:=K) ?G) (?XR (?a32 0 ZS)) ?eW (?XR (Ay (Bd (K:=K)) ?G ?a4 ?bA))));apply(?YW a hq)
 let Pq6:?f9:=λi ys τ H1=>Bw (?oU) (H1 D=?sZ) (ys=VI i (λi=>f i j)) (Dx λo=>τ=[o,iS j])
 apply Cr (K:=K) (a:=a) (xs:=us) Pq6
  ?p9 (λi ys τ H1 _ hz=>by let#[s1,_]:=hz;exact ?l8 hq) ?_ ?_
 . rintro i x ys τ H1 hx Ea;ext WM;let ?ME:=Oc i _ hx;apply#[_,rfl,_,rfl,b,_,_,_,rfl,rfl,?l8 hb,Ay5 hj,?_];apply#[Fa,?y1,?H1,Ab,?_,_,rfl];rw[Ur]
 . rintro ys τ H1 ⟨s1,Fa,rfl,_⟩;rw[Zv]at Fa;exact ?xL
noncomputable abbrev U7:Stmt:=top 41
def HY:?aT ?B3 ?B3 (As U7):=Bg
def IG[?b0](F:Et K ?FJ ?FJ U7 f fd)[?aZ] :?XL ?B3 Yd:=by
 apply ?YE HY;let#[n,i,rfl,hn,k]:=h;apply(?a21 (Bt (N':=?L9) (cap:=?yD) ?y ?dS (?a30 ?G) (?XR (?a32 0 ZR)) ?eW (?XR (M3 (?a36 ?G ?a4) Al Al))));apply#[_,rfl,_,rfl,O9m,O9m,?eF]
 let Pq7:?f9:=λj ys τ H1=>Bw (?oU) (H1 D=?sZ) (ys=VI j (?FP)) (Dx λo=>τ=[o,iS i])
 apply Lk Pq7
  ?p9 ?_ ?_
 . rintro j ys τ H1 hj Ea;ext WM;apply ?SM;have sz:(VI j ?FP).length<sizeLine:=?y1;ext eZ
   . have e0:?i3=?P:=?aN
     have e:j=i:=O9m
     apply ?J1;rw[Ur,?dK]
   . have e0:¬?i3=?P:=?aN
     have e:¬j=i:=O9m
     apply ?J1;rw[Ur,?dR]
 . rintro ys τ H1 ⟨s1,Fa,rfl,_⟩;rw[qd6]at Fa;exact ?xL
noncomputable abbrev CG:Stmt:=top 43
def PF:?aT ?wX ?wX (As CG):=Bg
def PY[?b0](F:Et K "mixed" "mixed" CG f fd)[?aZ] :?XL ?wX Tg:=by
 apply ?YE PF;let#[a,b,x,y,n,p,q,rfl,hx,hy,hn,hm,k]:=h;apply#[_,(?a35 (Bt (N':=?TB) (cap:=[none,none,?c 0,?c 2]) ?y ?dS (?a0N Vd ?a4) (?a1Z QH QH) ?eW (?XR (Bk Cc (Bk N5 ?aS ?G) (Bk N5 ?cL ?a4))))),?_];apply#[_,rfl,_,rfl,x,y,rfl,#[_,hx],#[_,hy],?eF]
 apply Qv (K:=K) (a:=x) (b:=y) (xs:=VI n p) (ys:=VI n q) (n:=n) (by rw[Bu,Bu,qv2]) (λi zs τ H1=>Bw (?oU) (H1 D=?hT) (zs=VI i (λj=>a*p j+b*q j)) (F1 λo1 o2=>τ=[o1,o2,iS a,iS b]))
  ?V6 (λi zs τ H1 _ hz=>by let#[s1,_]:=hz;exact#[?l8 hx,?l8 hy]) ?_ ?_
 . rintro i u v zs τ H1 pr hu hv Ea hp;revert τ;apply Zp ?_;intro s1 Fa hz1 o1 o2 Fv;subst hz1;let#[hi,rfl]:=V6 hu;let ?dZ:=V6 hv;have sp:?H H1 (upd H1 pr (?aB [?f (p i),?f (q i)])):=?z1;ext BQ;apply#[_,rfl,_,rfl,_,_,rfl,rfl,(hm i hi).1,_,rfl,_,rfl,_,_,rfl,rfl,(hm i hi).2,_,_,rfl,rfl,?_];apply#[?vG,?y1,(?A3 sp).turn hD,Ab,?_,_,_,rfl];rw[Ur]
 . rintro zs τ H1 ⟨s1,Fa,rfl,_⟩;exact ?xL
noncomputable abbrev Np:Stmt:=top 50
def l9:?aT ?zZ ?zZ (As Np):=Bg
def r6[?b0](F:Et K ?TU ?TU Np f fd)[?aZ] :?XL ?zZ Q8:=by
 apply ?YE l9;let#[a,b,sp,ms,rfl,KR,hb,hl,kq]:=h;have j8:=hr.u8;apply(?a21 (Bt (N':=?SE) (cap:=?yD) ?y ?dS (Cg (K:=K) ?G) (?XR (?a32 0 ZQ)) ?eW (?XR (Y2 ?sC ?a4 ?G Al ?tF))));apply(?YW a KR)
 let Pq8:?f9:=λi ys τ G=>Bw (?H H G) (G D=?sZ) (ys=((sp.take i).map (Br ms)).map ?a7) (Dx λo=>τ=[o,rS b])
 apply Cr (K:=K) (a:=a) (xs:=?sT ?a7) Pq8
  ?p9 (λi ys τ G _ hz=>by let#[g,_]:=hz;exact g.seq KR) ?_ ?_
 . rintro i x ys τ G hx Ea;revert τ;apply Hj ?_;intro g Ct hys o Fv;have hi:?QW:=by have:=(?bI hx).1;ext n5
   have hxv:x=?f sp[i]:=by
    rw[qb4,?r3]at hx;simpa using hx.symm
   subst hxv;have MX:=kG g hb;apply#[_,rfl,b,rfl,?i #[_,MX],_,rfl,_,DJ MX,?_];rw[DV];apply#[Ct,?eK (by rw[hys,qa2,qa2,qe2];omega),g.turn hD,Ab,?_,_,rfl];rw[qf8,?r3,qb0,qb0,hys];rfl
 . rintro ys τ G ⟨g,Ct,hys,_⟩;rw[qa2,qe7]at hys;apply kq D G hD g ?_;rw[Ct,hys]
noncomputable abbrev Yv:Stmt:=top 54
def LZ:?aT ["turn"] ["turn"] (As Yv):=Bg
def MH[?b0](F:Et K ?NP ?NP Yv f fd)[?aZ] :?XL ["turn"] aR:=by
 apply ?YE LZ;let#[u,t,rfl,hu,k]:=h
 apply#[_,(Ag (?a2U (?a36 ?pA N1) (Fq (Aa N1 (Aa ?pA (Aa ?pA (Aa (My Hu ?pA) Ac))))))
  (?a35 ?G)),?_]
 ext f5
 cases t with
 | ad i j n =>
   let ?xD:=hu;let ?QT:=rT;apply ?CW;apply mT (?n) ?_;apply#[_,rfl,ta,_,_,_,rfl,rfl,hT,rfl,_,rfl,ta,_,_,_,rfl,rfl,hT,rfl,_,rfl,ta,_,_,_,rfl,rfl,hT,rfl,_,rfl,?sA,?Q8];exact k _ _ (?cA hT1) #[T1,_,rfl,?jR,?QT]
 | mi i =>
   let ?xD:=id hu;let#[_,_,rfl,rfl,_,_,rfl,rfl,rfl]:=rT;ext VU
 | sw i j =>
   let ?xD:=id hu;let#[_,_,rfl,rfl,_,_,rfl,rfl,_,_,rfl,rfl,rfl]:=rT;ext VU
noncomputable abbrev Ex:Stmt:=Ev (top 55) 0
def W1:?aT ?uY ?uY (As Ex):=Bg
def Op[?b0](F:Et K ?oY "Lines.__init__" Ex f fd)[?aZ] :Bz P w K mg ?a1 Eo 1 f fd ?uY (Mq K Af Ad Ah):=by
 apply ?YE W1;let#[p,dx,C,r,b,rfl,hC,hp,k]:=h
 have hc:Cls K C/\Do K C ?t1/\Do K C ?p8:=by
  rcases hC with rfl | rfl
  . exact#[T.cl_Lines,T.na_Lines_rows,T.na_Lines_backs]
  . exact#[T.cl_Stairs,T.na_Stairs_rows,T.na_Stairs_backs]
 apply#[_,(Ag (Eu (K:=K) ?G ?a4)
  (Am (Eu (K:=K) ?G ?aS))),?_]
 ext f5
 apply#[_,rfl,_,rfl,p,C,dx,_,rfl,hp,hc.1,hc.2.1,?hC,?_];apply#[_,rfl,_,rfl,p,C,dx,_,rfl,Ab,hc.1,hc.2.2,by simp[putF],?_];exact k _ _ rfl rfl
noncomputable abbrev Ru:Stmt:=top 59
def Pb:?aT [?eH,"at"] [?eH] (As Ru):=Bg
def fH[?b0](F:Et K ?M8 ?M8 Ru f fd)[?aZ] :?XL [?eH] Tl:=by
 apply ?YE Pb;let#[c,W,st,u,rfl,hq,hb,hW,k]:=h;let ?R3:=hb
 apply#[_,(Ag (Av (i:=1) Pb.nd Al)
  (Ag (Ts qd1 (?a36 (Ay (Bd (K:=K)) ?G ?a4 ?bA) Al) (Am (Av (i:=1) Pb.nd (Bk Cc ?a4 Al))))
  (?a35 ?a4))),?_]
 ext f5
 apply Hv (?a2I (?f (0:Nat))) ?_ ?T1;apply Kg ?_;intro sq;apply ?a08 (?a2I (?f (st:Int)))
 . apply#[λm σ G=>Dx λ ?nO=>Bw (σ=[rS c,?c (?f ?aI)]) (H=G) (j<=st) (m=st-j),#[_,0,rfl,rfl,?cX,rfl],?_];rintro m σ _ Ea;apply uZ ?_;intro _;let#[j,rfl,rfl,hj,rfl]:=Ea;apply#[_,rfl,_,rfl,c,_,_,_,rfl,rfl,hq,Bp (Cm O9m),rfl,_,rfl,?_];ext eZ
   . have h0:u j=0:=?aN
     have hlt:j<st:=Nat.lt_of_le_of_ne hj λz=>b2 (z▸h0);apply#[λσ' G'=>Dx λ(j':Nat)=>Dw (σ'=[rS c,?c (?f (j':Int))]) (H=G') (j'=j+1),?_,?_]
     . rintro σ' G' ⟨j',rfl,rfl,rfl⟩;exact#[st-?a0,O9m,j+1,rfl,rfl,hlt,rfl]
     . exact#[_,rfl,_,_,rfl,rfl,j+1,rfl,rfl,rfl]
   . have h0:¬u j=0:=?aN
     have hlt:j=st:=by
      rcases qg4 j st with h | h
      . exact ?Q (b1 j h) h0
      . omega
     subst hlt;exact key _ _ ?fB
 apply Kg ?_;intro sq;exact#[_,rfl,k]
noncomputable abbrev Lq:Stmt:=top 64
def Km:?aT [?gX,"i",?eH] [?gX] (As Lq):=Bg
def Y4[?b0](F:Et K ?KA ?KA Lq f fd)[?aZ] :?XL [?gX] On:=by
 apply ?YE Km;let#[v,n,w,M,rfl,hv,hn,hw,k1,k2]:=h;let#[ta,us,rfl,hq,Zv,Oc]:=Hn hv
 apply#[_,(Ag (C4 qd1 rfl (Jv (K:=K) ?y ?SV (Aa ?G Ac)) (Co (K:=K) (n:=2) ?y (Bf (?a32 1 Km.nd) (Bf (?a32 2 Km.nd) Cn))) (Am (Cl (C9 (Aw (Zs (K:=K) ?y) T.n_any BQ (Aa (Bt (N':=?PY) (cap:=?NR) ?y ?dS (Jv (K:=K) ?y ?SV (Aa ?aS Ac)) (?a1Z qG qG) (?XR (Ql (Bo Jb ?G ?aS ?cE))) (?XR (D8 Jb ?a4 Al ?cE))) Ac))) ?rZ Bv)))
  ?rZ),?_]
 ext f5
 apply ?a08 (λσ' H'=>F1 λo1 o2=>Dw (σ'=?MA) (?W) (?FR n w M))
 . apply#[_,rfl,ta,rfl,#[us,hq],?_]
   let Pq9:?kG:=λi σ G=>F1 λo1 o2=>Dw (σ=?MA) (?H H G) (?FR i w M)
   apply Ub (K:=K) (a:=ta) (xs:=us) Pq9
    #[?aU,?aU,rfl,Same.refl H,λi j hi=>O9m] (λi σ G _ hz=>by let#[_,_,_,s1,_]:=hz;exact ?l8 hq) ?_ ?_
   . rintro i v σ G p hv Ea hp
     and_intros
     revert σ;apply kQ ?_;intro o1 o2 s1 hS Fv;let ?ME:=Oc i v hv;have sp:?H G (?JY):=?z1;ext BR;generalize ?JY=G1 at sp;have s2:=?A3 sp;apply(?YW b ?E1)
     let Bq7:?f9:=λj zs τ G2=>Dx λ(bs:?aM Bool)=>Oy (zs=bs.map V.bl) (bs.length<=j) ((?BH↔∃c,c<j/\c≠i/\M i c≠0)) (?H G1 G2) (G2 D=?hT) (j<=w) (?YJ ?c (?f ?P))
     apply Nf (K:=K) (a:=b) (xs:=VI w (M i)) Bq7
      #[[],rfl,?bM,#[λz=>?PX,λ#[c,hc,_]=>O9m],?s1,Ab,?cX,?aU,?aU,rfl] (λj zs τ G2 _ hz=>by let#[_,_,_,_,g,_]:=hz;exact g.seq (?E1)) ?_ ?_
     . rintro j y zs τ G2 pr hy ⟨bs,rfl,hbl,hiff,g,Ct,hj,q1,q2,rfl⟩ qX;let#[hjw,rfl]:=V6 hy;have gp:?H G2 (?E4):=?cA qX;ext BQ;generalize ?E4=G3 at gp;apply ?SM;ext eZ
       . have hji:j≠i:=by
          have:¬(?nO:Int)=?P:=?aN
          omega
         apply#[_,rfl,rfl,?F8,?eK (by rw[qa2];omega),bs++[!(?j (M i j=0))],?_,?L4,?_,(?HP).turn hD,Ab,hjw,_,_,rfl]
         . rw[qb0]
           congr 1
           by_cases z:M i j=0<;>simp[z]
         . rw[List.any_append,qs1,hiff];constructor
           . rintro (⟨c,h1,h2,h3⟩ | h)
             . exact ?US
             . exact#[j,O9m,hji,?nW]
           . rintro ⟨c,h1,h2,h3⟩;rcases qg4 c j with h | h
             . exact ?i #[c,h,h2,h3]
             . have:c=j:=O9m
               subst this;exact ?o (by simpa using h3)
       . have hji:j=i:=by
          have:(?nO:Int)=?P:=?aN
          omega
         apply#[bs,rfl,O9m,hiff.trans #[λ#[c,h1,h2]=>#[c,O9m,h2],λ#[c,h1,h2,h3]=>?US],?HP,?F8,hjw,_,_,rfl]
     . rintro zs τ G2 ⟨bs,rfl,_,hiff,g,Ct,_⟩;rw[Bu]at hiff;apply#[D,bs,rfl,.of Ct,_,rfl,?_];ext eZ
       . have h2:?BH:=?aN
         let#[c,c1,c2,c3]:=hiff.mp h2;exact k2 (λz=>c3 (z i c hi c1 λe=>c2 ?i1)) _ (?oE g)
       . have h2:¬?BH:=?aN
         apply#[_,_,rfl,?oE g,λx c hx hc hne=>?_];rcases qg4 x i with h | h
         . exact hS x c h hc hne
         . have:x=i:=O9m
           subst this;exact qg8 λz=>h2 (hiff.mpr #[c,hc,λe=>hne ?i1,z])
   . rintro σ G Ea;revert σ;apply kQ ?_;intro o1 o2 s1 hS Fv;rw[Zv]at hS;exact key _ _ #[_,_,rfl,s1,hS]
 apply JR λo1 o2 G s1 hS=>?_;intro sq;exact k1 hS _ s1
end
mutual
#check(4,[?a,?b,some,.ref,base,(by rfl),.int,Same,(λkey=>?_),(pv 0),none,(pv 1),.lst,rS a,(pv 2),.inl,FnScope,F.okZ,λDp A outer s H vs Q E hr h=>?_,∀(T:?GG),a,∀{f:Addr}{fd:FuncData},a,rS p,(Bj _),.tup,Same.new,(pv 3),.inr,.(by decide +kernel),.(by ext D),.(by simpa using h1),T.cl_Work,(λ_ _=>rfl),.(by infer_instance),Rep.same,decide,putF,.(by decide),spot,(?K),.ins,T.cl_Stairs,(by ext Q),.(by kernel_rfl),"shape",(pv 4),(λ_ _ _ _ _ _=>Dz ?F),Nat->?e4->St->Hp->Prop,(λ_ _ _ _=>By),λD hD=>?_,V.int,(?W9 ?j),rS D,(?WR Bd),rS l,.(by apply ?i7 (λh1=>?_) (λh1=>?_)),(i:Int),(?W2 ?j),"table",?c (?gS),W.findIn,(Aa ?l Ac),B9 (?aD),(?g3),V.ref,(k:Int),.(by simp),(?P4 G7 (λ_ _ _=>rfl)),"self",.(by ((repeat (first | rw[Ar,?e8] | ext sC))<;>first | rfl | assumption)),.(by and_intros),(?W2 ?o),(λ_ _ _ _ _ _=>Hs (?KX)),if_neg,?g i,iS k,Nat->St->Hp->Prop,(0:Int),"number",(?V5 Gd),List.range,rS ga,(i+1),rS tp,(n:Int),T.n_len,rS la,T.n_range,(pv 5),"place",List.replicate,?g 0,"width",g.trans,qb2 _,(Aa ?j ?a8),.(by revert τ;apply Hj ?_),.(by exact nomatch hl),?c o,iS i,V.bl,#[_,rfl],s2.trans,(?WR Ax),?c ?k,if_pos,(?WR Bc),rS d1,?cB O9m,?y hD,hc.1,(pv 7),.(by rintro σ G Ea;revert σ),.of Ab,SameX,(?m []),rS d2,?c (?w9),?SU ?cT,T.na_Stairs_rows,.(by apply Kg ?_;intro sq),.(by let#[g,_]:=hz),.(by exact this),Hx.nd,(?ON Dn ?f),(-(B / g)),Kp.upd,(?SZ ?aZ),PW.pt,(G D=?rJ),(by ext B),"turn",[?R,"k",?cM],(?OK ?Y ?l),cK ms,T.n_all,small,[?aF],?p rfl,(?d E),λa ha=>?_,(.dK []),.(by rw[qa2];omega),.(by rotate_left),C3.nd,"lifts","__init__","thing",(?R7 rfl),rS L,R.same,?c ?KB,List,?y hp,(m:Int),s1.trans,H=H',.(by ext cZ),.(by apply Oz (?aD) ?_),.(by intro z;cases z),.(by simpa using h2),Sum.inl,ps.take,C7 xs ?p6,(?SZ ?l),[(?h3,1)],[none],SameX.upd,?SU ?vX,xs.getD,T.cl_Lines,(by ext cY),(?gI),l.prog,Rows,"chain",xs.length,Reps.same,Bs ?DJ,?X 1,[?cM],"other","rows",(?h H G),.(by apply Oz (λz=>nomatch (show false=true from z)) ?_),q.1.toNat,rS ta,?c v,[?aF,?dL,?gB],B4.nd,?c q,as.map ?aB,.of ?lF,"told",(?W2 ?aZ),(f+d),Du.nd,(?d Af),?vY V,rS b,?c (?g ((?iR:Nat):Int)),?cR V,T.n_isinstance,(pv 6),R.same.seq,?bG rfl,(?SZ ?o),rS h,(?hB,Lat.one),rS t,?cB (?uI),?cU s2,λOa=>?_,?SU ?aC,(pv 8),(F7 Ac),(?W2 Al),[?aF,?c6],p.2.2.2,?d D2,?g (?nQ),"left","list",?iB g2,T.na_Work_numbers,H' D,(?i6),T.na_Stairs_starts,(?tM),(pv 9),T.cl_Book,Lat.Mat × Lat.Mat,Ej.nd,?H s1 hL,?d D1,.of Ct,bs.map ?aB,W.keepIn,?cU g,SameX.of,s1.seq,?aK (λz=>?fF (z▸hm) ?c5),hw%3=2,(?V7 ?a4),(?hU),qg9.mp,T.n_list,T.na_Work_table,absurd,true,T.n_enumerate,(?PJ [o]),"blend",iS hw,rS nn,"hole",.(by ext fQ),[?aF,"k"],.(by let ?xN:=lx.ob),.(by simpa using h4),(?d Ah),?d6 (SameX.refl _ _),hc.2.1,?aC+1,(?g9 hv).1,"one",s3.trans,"numbers",?y hE,T.na_Work_left,?g ?iV,λG2 g2=>?_,?UH H,?SX ws,?U8 ?wJ,hc.2.2,λm hm=>?_,#[_,rfl,?_],qa4.mp,[?R,"k"],"backs",?p hq,R2.same,De.nd,[?aF,"i","j",?fW,?dK],?SX us,s1.free,A / g,Cp n,Kp.of,s.1 i,"row",(?d Ad),[?a5,?b3],qa1 hi,p.2.2.1,?n7+n,?g ?aV,[?R,?cM],Da xs ?p6,[(pl,1)],C7 xs 0,?c 0,(?W2 ?Y),(qk6 rfl),(?OK ?Y ?o),(Cb _ _ _),?c ?bQ,(q:Int),[?R,?dE],λE hE=>?_,?c 1,?d a,rS tl,(?W2 ?e9),"law",Lat.one,.(by apply(?PE p)),.(by apply#[_,rfl,rfl,_,rfl,?_]),(w+n),iS kk,kk-1,c≠D,rS d,T.na_Work_right,?d8 i.toNat [],(ws:?e4),(Ay ?bH ?eH Al ?F),"right",s.1 i (?iM),qb9 T6,?SB H,.(by rw[qb0];rfl),l4 _ ?c5,"papers",spot+1,?d ta,k H1 s1,bo.1,x.same,"_law_script","piece","pieces",rS tg,(as:?iX),Ak z,(?iR),0+?a3,ite2,λj=>?I (wI ?gQ (?xP).2.1=?jT),?A rfl,(B9 (by rw[Ga];omega)),g1.trans,s.1 ?L (?iM),Nat->Int,mainGlobals,Reps,K.lookup,(?b4 g2).turn,t4.trans,(?OK ?j ?z),(u1 j8),Qd hs kk,t ?L,#[_,z,_],(pv 11),(us:?e4),?d T1,C7 xs k,j7.k,(?WR M6),?SU ?h3,(j:Int),(?OG [(0,1)]),?cR Addr,Bs ?KM,lX.trans s4,"holes",(?dU),.(by apply Ha ?L8;intro sq),.(by rintro i v ys τ G hv Ea),.(by exact k H (?y8 H)),.(by rw[qi5,qb0];rfl),.(by rw[?IC]),.(by rw[Ak ?y0]),λq=>?I (p.1∣wI ?gQ (?kH)),[?R,?cM,"level"],R.free,ys.length<=40,Da xs (k-1),(?UH H2),(?HF),?HV g3,?c (?g ((?d2:Nat):Int)),(by omega),(?iQ),rS fi,?X 0,?bD g,(?d Au),id hL,?g (fs.getD i 0),(?W2 ?e6),?b4 sp,(t:Addr),(Ie m f),if j=i then 1 else 0,(?V7 ?a8),?y hT1,(?ON Cg ?j),[?aF,"i"],(D:Addr),Hn hv,(?fS),(?GH).map ?X,λe=>?JE,?U8 hp,.cons,sL.seq,?cU sp,.none,?SV [],.of et,#[r,b,lx,_],#[s1,_],?c ps,(?g9 hx).1,Bp oJ,R3.same,(qg7 _ _),Bh xs [(q,1)],sp.trans,λhnd o=>?_,λk:Nat=>F8 xs ?aC (?wD k []),(?OH Kk),(top 63),(?V7 ?gY),(?W2 ?h0),"tuple","_law_many",ps.map,λq=>?kH,#[rfl,?_],Hz.nd,["parts"],ns.map ?X,p.1=0,Da xs k,[[],[?aV],[],[]],(Mr K Af Ad Ah),#[[],rfl,rfl,?uC hD,?k,rfl],(?SR Gx (Aa ?j ?eJ)),(H1 D=?rJ),g3.trans,?bD s3,(?aR i).map,?y hd,xb.2.2,(?f5).trans,(top 58),(?V5 ?o),(show spot<n by omega),Lat.turnL,(?JG),xa.2.1,V8.of,T.n_zip,#[_,qa1 O9m],(xs.length:Int),#[?bK,Ab,rfl,?k,?k,rfl],Cs.nd,(?h H H1),(?h H1 G),?d l1,Ak n1,∀(Bl:Has P w K mg ?e ?qN ?gA 2 (C8 K)),a,.(by let#[tva,iZ,IW,hpa,l1a,l2a,zY,l4a,xH,l6a,l7a,_]:=x.ob),∀(C6:Has P w K mg ?e ?q7 ?gO 2 (Hw K)),a,∀(Db:Has P w K mg ?e ?H0 [?i0] 1 (Gy K)),a,.(by rw[?MD]),.(by have:=r.length;simpa using this),.(by let#[q,hq,rfl,rfl]:=Sx hx),.(by exact ?JC),∀{α:Type}{P:?cR α->Prop},a,.(by exact λz=>nomatch z),.(by have:=pk.n4;omega),.(by apply ?g8),∀(us:?cR α),a,"without_borders",(?R4 ys),[?uB],(pv 10),#[z,e1,e2],[?aF,?a5,?b3],"plus",?Q5 g2,"is_order",PySem.W.plainGet,[?fY],(?t9).2,(qb3 hq),?d b,?DZ=0,?ON ?pS hi,tD.trans,[?fW,?dK,?b3],?cB (by rw[qa2,qc5];omega),H' d1,lf.getD,"many",(?UG v),(?g9 hq).1,(?UH G),Ak nD,[?R,"k",?b0,?aP],"are_holes","lift_of",(?x [?g q.1,?g q.2]),.str "add",.(by ext lV),nb a ha,"__setattr__",(?h7),Wb ?eV t1 (qs.take i),?U8 hb,"are_lifts",?aK h2,Gb.nd,(1:Int),.func,(?m [?b2]),dd.same,Zp ?_,.(by simpa using h3),"book_holds",(?W2 ?z),R2.same.trans,"first_misfit",R.push,(?OH Mq),"is_list_of_wholes",(?UH H1),W.fnOf,?d ga,Bh xs ms,[?a6,?Z,?bS,?hI,o4],"is_chain",?LB f k0 i,λr' b' G2 sx n1 n2 z=>?_,(El n n),"is_round",DictsN,(qb3 hp),"each_divides_the_next",[?R,?j0,?cK],((?iM:Nat):Int),λa ha z=>?_,PySem.W.plainOver,(w:Int),#[sZ,SY],"turned",s0.free,"is_place_of_level","hole_lines_hold",[?cM,?uD],pa.same,(?s2).1 i (t ?dY) / s.1 ?dY (t ?dY),T.na_Work_width,"is_shape",(?d t),"fits","_law_lifts",cK ?gQ,?c (?c (?M9 "object.__setattr__")),for_list,?IJ i,"chain_of","list_times",?OD #[rfl,s1],(k0:Int),?SX (?f3),(?CM i j 1 l),(?y wW).turn,(?WR Qq),[?cM,?b3],Lat.blendR,upd G e (?OG ?gV),?DZ=1,k01.trans,(ys=?dU),λH1 s1=>?g8,?vY L2.V,(σ'=[?n,?a6,?v,?bI,?bR,o5,?a1,?fK,?bT,iS v,none,none,none]),R2.same.free,"lifts_of",?f7 hq,PySem.W.makesIn,T.na_Stairs_backs,(?gP),(?fU),(?AK),?c 2,Sv d f l r,p.1=1,"border_table",[?hZ],(TX i j g a b f r),λt ht=>?_,(?UH G1),cK ns,σ'=[?v,none],["value",?aP],"_law_i",R2.free,?SG m,(?W9 (Bb (K:=K) ?o)),"check_level",?SB H0,?H g1 hL,"parts_of",["k",?uD],xa.row,#[bs,xb,nb],PySem.W.hasDictIn,(?fX s4).trans,Wn ?_,(by ext s7),R.same.trans,"bases_of",T.na_Lines_rows,(as.length=i),((spot:Nat):Int),sp.zip ns,?bG h2,"_law_cell_at","is_hole","flipped",s.1 j,¬N a,(?PC ?a8),?y8 _,λ_=>False,t3.trans,Kl.nd,Wl lf (?d1 j),plusI,?S5 h1,W.codeIn,"border",Str.empty,"is_chain_of_some_level",g4.trans g5,"places_of_level","is_whole_below",dR ?KM,qa5 (Gc _ _ _) K6,T.na_Lines_backs,"lines",i<ns.length,(?d Gg),(?EL),N8 ?dF (ls.take i),(qj0 ?h1),R1.free,(o8:?e1),?c ?EV,"is_multiple",(?gU).map,λVr=>Vr _ _ ?zT,σ'=[?v,?dP,?cQ],(Am Tt),"product","piece_line_holds","diagonal",[?R,"k",?gM],[?g g,?g a,?g b],?aK ?jH,#[T1,_,rfl,?bO,?IR],i+1+j,"is_part",.of Fa,?aK ?c5,?S5 O9m,[?R,?cM,?uD],?SX ys,"is_table",?Q5 s05,(?kY).length,(?c M),(?jC).length,(?AP),W.nsIn,"add_faces",[?hZ,?B1],[?fW,?dK],q.1=0,T.m_Lines,H5=H',"stepped",(?v8),"ones",[?cM,?mO],(?kZ:LLInt).take,?uU t i f s d,a=q\/N a,∀(Fi:Has P w K mg ?e ?qJ ?h4 7 (Mp K)),a,∀(Ih:Has P w K mg ?e "times" [?aP,?dE] 1 (O8 K)),a,∀(Eg:Has P w K mg ?e ?BV ?dJ 1 (I0 K)),a,.(by first | exact Or.inl rfl | exact Or.inr rfl),.(by rw[show ?tR=?a3 by omega]),.(by apply(?OY a ?tV)),.(by apply ?pW;intro t o8 g tE hch Fv),.(by apply(?Q2 _ rfl)),.(by rw[Ar,?rG]),.(by rintro ys τ G ⟨g,Ct,rfl,_⟩),.(by injection this with this),.(by replace hrep:=hrep _ rfl),.(by let ?BD:=T.x_LEVELS),.(by let ?uS:=lx.rw),.(by let#[sZ,SY,sm3]:=x.sm),.(by rw[Ak hb,Ak hb,Ak hb]),.(by rw[qa2,xa.1];exact hi),.(by rw[qa2,xb.1];exact hi),(E5 n),?qG (Bh xs (?mN q [])) (M4 lf ?eV),"share",#[z1,z2,z3],(?dU).set,ED K H H' p d1 d2 l n us f g as lf,[?a5,?b3,?qS],?H M7 hrep,(?hG).toNat,?b1 us.length ?fG,[?yD,?KD],.of y.st,[?qS,?c6],?d8 i [],timesI,"put_in_order",.of x.nu,[1,0,0,0],(Ss ((?q3).take i)).length,?bD sp,upd H5 p (?N Ah dx (?OW fs)),?VW H d,[?dE,?w7,?aP],RM.2.2 k a ha,ms.getD i (0,0),#[_,qa1 (by ext m0)],?UF H [?mX,?w9,?g1,?g 1],#[p,hp,pa],R4.same,.(by rw[qN];exact h3q),[?R,"k",?j0],?OE s1 et,?TG d,Lat.Shares,?TB G l,upd G d (?OG [(q,1)]),Bh xs ?d4,#[k,hk],sp _ _ Fa,pI.trans,g.turn hD,?aO+?a3,qa5 (Gc ..) K6,(K w.params).In,"straighten",#[_,hq],[none,?gX],sB.trans,s1.turn hD,"put_in",(E:Addr),"count","loops",mT rfl ?_,.(by rw[qq5];rfl),.(by rw[Bu]),Nz xs hs lf,"shrink_row",?VW G d,[?cK,?dE],?RB ?eQ,"size",Rows.nil,"bound",S5.sm.seq hS,TI.mk (?bO),?Q5 XO,g02.trans,.(by ext cH),s0.trans,?d8 q [],g.free,[?fY,?a5,?b3],qh5 _ O9m,C7 xs ?aC,?y qX,σ'=[?v,iS ?L,?bA,?SU ?nY,?SU (?iC),?SU (?hO)],[?gM,?b3],#[as,xa,na],lx.keep s1,Lat.shrS,[none,none],x3.tup,tN.same,"step",s12.trans s3,?I (0<=i)&&?I (i<?lJ),"spot",pv.same,[?aF,"i","first"],"Lines.turn",tT _ _ _,(s:?eY),[?R,"k",?hT,?u2,?y9],σ'=[?v,?bA,?SU ?q2],?cR Int,[?aF,"i","j"],(TA.of R hcl).same,?y hF,"below",qb9 hps,T.n_dict,"bases",[?aF,?v1,"i"],us++[?d t],CU ?M ?M,xb.there.2,(d:Addr),Nh xs ms i,?d8 j [],x4.tup,Te ?d4 t0 ps,?cR BPart,?UF G3 [.str "minus",?g ?q2],.(by ext z3),Zl ?L i (?iC) (?hO) g a c s,.(show((kk.toNat:Nat):Int)=kk by omega),Ey.mpr rfl,?U7 p [?g sv,?g nv],(z:Int),Option,(gp:Int),LT.get,?U7 T1 [?mX,?aL,?g (?w8:Int),?g (-qq)],W.isFn,.(by rw[Ab];rfl),(st:Int),t2.trans,λC hC=>?_,"faces",(f+d:Nat),?g ?a3,[none,?h6],T.na_Book_pieces,λH2 s2=>?_,hs.getD,"Lines.blend",g2 _ _ MY,Lo xs ?p6,qj3 ha,s3.free,xb.2.1,.(by split<;>omega),(?kY).getD,?wL i 0,upd H4 p (?QH ?cE fs),#[tu,b,h1q,h2q,h3q],λD2 H2 Xt s2 h2=>?_,qa2 ..,.(by rw[Bu];omega),.(by simp at e),?QY hch.ok.len,?U7 t [?g 2,?g (1+(?i6+1)%?aV),?g (1+?eT)],t1.trans,λF hF=>?_,(?gU).length,.(by simp at z),Str->?vY Value,"meet","shrink",#[dv,kU,rv],λT1 hT1=>?_,[?aF,?cM],?UF H3 [?mX,?g1,?w9,?g ?E0],U m M l r,#[_,_,_,g,_],upd H C (?m (?k1)),?i7 (λh2=>?_) (λh2=>?_),?Q5 (?kI g2),upd (upd G1 dJ (.own L')) L' (?N Af dJ []),(?A2,s.2),?d la,[?R,?j0,?cK,?b0],[?R,?vG],"twists",?hO / ?iC,.(by rw[hfs];ext aG),?I (i<b),#[i,hi,rfl],(z▸R.free),?cB (by simp;omega),#[dx,fs,hp,l1,l2,l3,l4,l5],nL ?kZ,ps.getD j dP,?UF H [?mX,?aL,?g ?L,?g (-kk)],[none,none,?gX],(?J7).length,(t:?M8),s4.trans s5,belowD (?aL) b,R1.same.free,upd H e (?x []),(x.same.trans s1).free,.ad i ?L (-kk),λz=>?_,na a ha,"bool",H' p=?TY Ah fs,λ(k:Nat)=>chainB xs ?aC ms,(pv 12),(?gU).take,?U7 t [?b2,?b2],Same.refl,"gauges",?cR (Str × V),Ie m ?AD,(L6 n),(?i1,?d P),V8 r b H1 G,EB.c2.ok.len,B9 (by simp;omega),yY.trans,g _ _ hp3,.(by exact#[?L2,?eD,?CD,?LC,?hR,?nH Xt s2 (by rw[hal];exact h2),_,rfl]),.(by apply(?PH t ?k9);apply ?x9),.(by apply#[_,rfl,_,_,rfl,rfl,(?PK 3),rfl,_,rfl,?_]),.(by rintro ys τ H1 ⟨as,hal,rfl,R,_⟩;exact k D as H1 O9m R),∀(Cw:?PA P Ad),a,∀(E3:Has P w K mg ?e ?nP ?c7 5 (Lb K)),a,.(by rw[qb4,?gP]at hx;rw[qa0,?gP];simpa using hx.symm),∀(Ii:Has P w K mg ?e "mixed" ["a",?fW,"b",?dK] 1 (Tg K)),a,.(by apply(?PH ta hT1)),.(by apply(?OU pr hp1)),.(by rwa [show((?dO:Nat):Int)=q.1 by omega]at this),∀(Dt:Has P w K mg ?e ?pN ?pR 3 (Gk K)),a,.(by let ?IV:=x.ob),.(by let ?tD:=pp.get hv;have hi:=(?g9 hp).1),∀(P1:Has P w K mg ?e ?m9 ?rT 2 (Xk K)),a,.(by rcases ho with⟨_,q⟩|⟨_,q⟩<;>cases q),.(by rcases cl with⟨l1,l2,rfl⟩|⟨l1,rfl⟩),.(by let#[r1,b1,r2,b2,lx,ly,f1,f2,f3,f4]:=x.li),.(by apply#[P,_,rfl,?p (.of hP),?_];rw[qa2]),.(by apply(?R3 ?W)),.(by have:=?kD;simpa using this),.(by let#[ci,_,oJ,_,mX]:=?mI),.(by subst z;rw[hb]at e;cases e;exact Ab),.(by rintro ys τ H1 ⟨s1,Fa,rfl,_⟩),.(by apply ?LN),.(by apply ?i7 ?H5 ?H5),.(by apply(?R3 ?_)),.(by intro s1 Fa hz1 o Fv;subst hz1),.(by rcases ha with rfl | rfl | rfl),.(by rintro ys τ G ⟨g,Ct,yl,_⟩),.(by apply Ha λH2 EE=>?_;intro sq),.(by apply qU ?_;intro o1 y Fv),.(by rintro i x ys τ H1 hx Ea),pk.lc i hi,.ad i ?dY (-qq),?TA H',.(by rw[Jw]),.(by rw[qa0,hps];rfl),λG' z=>?_,?d8 ?dO [],WQ _ _ GD,R.same.free,dX lu k=?c ?cE,#[Ab,[(?d0 0,?dI)],rfl,?aD,?_],Lat.downS t i s d,upd J3 c4 ?bQ,#[rfl,rfl],?qG ms (ns.take i),hW.2 i v ps e1 e2,upd H L ?EV,ChL.bord,?i7 (λh3=>?_) (λh3=>?_),m5 _ ?c5,?SB H2,(?jL).trans,λx a=>s.1 x (w+a),#[a,us,rfl,hq,Zv,Oc],Ie m (YW i j g f),qh5 _ (Int.le_of_lt h2),F8 xs ?aC ps,Pr Kb T Gn Ii,a=nm\/a=r2'\/a=tK,(?d8 pl.toNat []).length,(Yj K Au),(At (s2 _ _ hD) R3.free).symm,Uc sh _ _,λk=>if k=i then g else f k,#[_,qa1 (by have:=bb.1;ext m0)],λP H1 nP s1 hP=>?_,.(by rw[Ak HA];exact Fa),TA.of R1 hl1,"_law_lifts_here",tI xs[i],λa=>a=nm,(?vN).length,?p (?HU),(G E=?rJ),sp.getD i 0,?TG D,#[rfl,λi v ps e=>?wS],upd J7 y5 (?VU y4),#[_,rfl,_,_,rfl,rfl,?_],"Work.share",([(0,1)]:Ms),?Q5 gp,[?n,?eA,?a1,?iU,?hF,?hI,rS e,?eC,o8,rS bl],.(by rw[←xN];exact qp5 _ O9m),.of xp.2.1,(?RU hq Oc),"one_row","_law_k",#[?k,?k,rfl,Ab,?_,?_],#[_,_,q,_],G5 c=?b9,upd H1 L (?VU e),bs.length=i,"Work.straighten",.(show((k.toNat:Nat):Int)=k by omega),"shared_divisor",?QY ?yF,(o3 o4:?e1),(?eS=?g4),#[Kh,Fu],Int.dvd_of_emod_eq_zero,#[hW.1,λi v ps e1 e2=>?_],(?aV,([(2,1)]:Ms),g,f),#[PZ,pZ],?U8 hh,(z▸Xt),#[o1,o2',o3'],?h H0 H4,(?f3).set i (?d D3),upd G pr ?mP,?h HL H1,Oz ?c5 ?_,(o1 o2 o3 o4 o5 o6 o7:?e1),?Q5 g1,#[_,rfl,ta,_,_,_,rfl,rfl,hT1,rfl,?_],?Q5 g34,λP H2 nP s2 hP=>?_,"is_whole",i<xs.length,LT.len hL,λT G4 nT s4 hT=>?_,s5.trans,h.Ns ?iE mg,"column",((i:Nat):Int),Z8 xs (?x ds),Lg xs k p n,(spot<=i),"Stairs.put_in",?S8 true,(I ?L s),λc hc=>?_,upd J4 x5 (?VU x4),[?n,rS af,iS n,o1,o2],upd H8 x1 ?iW,as++[D2],#[ps,hps,z1,z2],?Q3 xs.length,?VW H1 D,qp5 _ ?M,#[O9m,O9m,O9m,λc hc=>?vJ],"_law_book",.(by have:=dn.1;rw[qa8,qa2,qd9]at this;ext bX),upd G' p (?UG ?eN),Lat.addS,dn.2.2 k d hk,OH _ _ Ct,(!(?QI 4 ?kK))=true,upd H5 p (?SF Lf),#[pa,pu,rfl,hpa,rP],(?TJ ?eC o8),s5 _ _ Q0,upd G1 c (?m (?VX ?c)),(?y6 i).map,?rQ K ?iE s,#[q0,q1,q2],yX _ _ x.nu,g2 _ _ hpG,nb a (mb a ha),?SB H1,.(show ?dH-1+1=?dH by omega),ok.hd j O9m hj2,?nL ?hA ?hA (Ix Tr) (Go Tr) (As Tr) ?k7 XH xS WS xW RY xT,(z.same UA).there.1,.(by rw[qa8,hcl];rfl),xb.there.1,.(by have:=dn2.1;rwa [qc5]at this),(z.symm▸y.mq),Cls K C/\Do K C ?dL/\Do K C ?gB,upd J1 c2 (?m [?gS]),upd J9 z2 ?bQ,V9.of9 O9m h3,#[_,rfl,L,_,_,_,rfl,rfl,hL,rfl,?_],(?RU hq _),upd J1 x2 ?iW,Lat.insT,"Book.twists",(?uK).length,Lat.ChainTo,?ON x.row hi,(?HX:Int),?KL=true,EB.c1.times,(o5:?e1),d ∉ as,hs[k]?=?kC,#[_,_,rfl,rfl,_,_,rfl,rfl,rfl],"is_straight",base.Ns ?iE mg,λc r n1 n2 e=>?_,"filling",λj hj1 hj2=>?_,st _ _ (s2 _ _ (?cP _ _ e)),hw / 3%2,(-(?LF)),.of (id et),?H s12 hL,#[h3,rfl],"Stairs.shrink",#[st,lx],(σ'=?AW),#[t,c1,c2,c3,rfl,et,_],Ln.binds (ps:=?eK) ?T,Lat.beside,λe=>eqD e (?g (ds.length:Int)),.(by have:=rG.length;rwa [qa2,qc5]at this),qa5 ?h1 ?qX,(?y ndl).turn,(if ?o1<?DM then ?o1 else ?DM).toNat,?H g3 hL,gz.trans,z.there.1,.(by rw[z]),λc hc=>hb.1 c O9m,"Stairs.__init__",?U8 e,?bP p H3 H',Fg (?vN),(?cT-(?a3+1)).toNat,T.na_Book_levels,?V3 ?C3,hB.2 i v ps hv hps,a=O3\/a=O4,"Work.put_in_order",wR.trans,(?m ?j1),λkey=>?JC,Fg (?sZ),?h G3 G4,#[O9m,O9m,O9m,O9m],?sQ i (?f1),λY G3 nY g3 hY=>?_,#[ta,vs,rfl,hT,rT],kk.toNat,Iz.binds (ps:=?dR) ?aE,"Stairs.meet",?OD #[rfl,λa ha=>by rw[Ak ha,Ak ha],Ab],g.natAbs<L9,?bP p H H',[?B1,?CJ],Fg (?uK),sG _ _ hpB,"Stairs.shrink_row",(z▸y.mq),i<ms.length,"start_of",(?oI).filter,#[h1,h2,h3],#[_,us,z,hq,r],(?v0)=true,kq H1 s1,(?fX UA),((f:Nat):Int),#[hi,b,rfl,hb],#[D,_,rfl,?f2,_,rfl,?_],?ON xb.row hi,?b1 ?xS ?fG,(?mZ).2.2,sL.seqT hT,Oz ?M ?_,l6 _ ?c5,Heap->Prop,#[c,rfl,nc,hc],#[_,b,rfl,hb],OV ?lE 1 n [] 0,(?oV k19),upd G3 pr2 (?x [?g j,w]),(ET K Au),#[h2,h3],.(by rw[←xN];exact qr8 _ O9m),#[d,rfl,hd,?l7,Ab],?cB (?wR),#[?k,rfl,x],Lat.moveS i ?L s,upd G c1 ?bQ,"across",#[?K,?K],Bs ?AL=i,Addr->Prop,λG4 fs hfs hG4=>?kT,?mN ?MC [],?TG D2,Fj K mg Af Ad Ah Au,ns.drop 1,M7.seq hq,VI z (?LB f k0),#[cs,_,ecs,_,hcs],g _ _ hpa,((d:Nat):Int),?SB H3,IntMulOk,Ra Ln T T9 Xs,g2 _ _ VH,(ls:?cR (?vQ)),(?mZ).2.1,((?aR 4).all ?kK)=true,"Work.step",.ad j i ?E0,x.fr.2.2.2,?VW J2 x3,λi=>r.1 (k0+i),#[_,?OE s1 hl],"level_of",na a (ma a ha),.ad i j 1,?RX s03.free,upd (upd H2 tH (.own p)) p (?N Ad tH []),(λe=>?_),"is_list_of_few",hk1 c r n1 n2 e,#[pr,pb],Vf xs hs lf,upd G p ?mP,(?Q2 l hl),#[o2,o3,rfl,d,f,l,r,hd,hv,z],?H g hL,(?nF s67),upd H1 p (?N C dx (?QQ fs)),[?n,?e2,?Z,o1,o2,o3,o4,o5,o6,o7],(P:Addr),(o2 o3:?oY),dd.keep λc kvs e0 e=>?_,(Qn ?bM),[?n,?e2,rS E,o3,o4],?c (?eN),[?g g,?g a,?g c],(?UW hl),El n ?aT,upd J5 y1 (?OG [(2,1)]),"faces_agree",npn.symm,m4 _ ?c5,.of x.st,g2.trans,gz _ _ e2,(us.length:Nat),p.2.2.1.take,#[v,h,w,f,rfl,hv,hh,hw,k],ns.getD i 0,#[r,b,lx,f1,f2],"levels",tell i hi,[?a6,?Z,o2,o3,o4],?H ?cP hv,qr8 _ ?M,?k4 ?bC (?k4 ?bC (?k4 ?bC (?k4 ?bC (.nil)))),#[?a9,?h5],[?n,?aM,?aU,?aX,?aS,?d7,?e3,?fL,?h8,?i2,?jJ,?Z,o12,o13,o14,ZK],"Lines.__init__",[none,?c 12],Ak HA.symm,#[_,rfl,rfl,?_],(VI m f).set i (?g g),(o4:?e1),?U7 p [x,y],(z▸R2.free),(?qD (?iI t5)) _ _ e2,(Xp ps).take,?SB G1,xs.take i,λhS G1 s1=>?g8,.(by rw[qk8]<;>rfl),λtp htp=>?_,x4.right,"Work.__init__",#[_,_,rfl,rfl,_,_,rfl,rfl,_,_,rfl,rfl,_,_,rfl,rfl,rfl],?J ?dL (?aB D1) fs,(z▸z1),NB _ _ hLr hLb h,#[tv,dx,fs,hp,l1,l2,l3,l4,l5,l6,l7,hrep],(?aR n).map,(o12 o13 o14 ZK:?e1),#[tvc,dxc,fsc,KS,l1c,l2c,l3c,l4c,l5c,l6c,l7c,_],?OD ?G4,?E9 w M P,Ho ms fs n i,(?L0).length,H4 a=?b9,pk.ok _ _ hps,(?TP o5),?p9/\?tK,ns.zip (?GH),λG5 g5=>?_,?U7 pr [?aL,?lO],?Q9 #[_,_,_,e,_],?b1 (z-k0) (?jK),?OD ?zT,upd J2 c3 ?bQ,Dq xs e (?iY-1),(?QI ps.length ?i8)=true,[[]]++?b1 n [0,0],?VW G E,W8 n g f,#[cs,_,_,R,_],wu.length=lf.length,[?v,o1],lu.length,lx.nn a ha e,?b1 ?dF ?fG,dd.2 _ v hv,"Book.count",(F7 ?eJ),upd H1 l1 ?n9,(top 55),#[c1,rfl,_,hc1],(?eS=?h2),#[y1,y2],?cP _ _ hp,?nY<=?w4,?PZ Fa,"add_at",dd.1.trans,λd hd=>?_,[?d D,?d L'],wR.free hnm,#[hi,rfl],λi w p T6 hp=>?_,[[],[?aV],[],[]].getD,upd J3 x4 (?TX x3),[none,?gX,?h6],λkU=>?_,(?g ?o1),#[n,rfl,hn,k],(?I2,?d Lv),?UH B,.(by have:=pl 0;omega),upd H1 B (?m (?f3)),upd J6 y4 (?TW d1),Lat.blend_row_ne,l6a _ ?c5,o3' g' a b sh,sameC (Bh xs ?eL) (?t0 p.1 p.2.1),ds.length,upd J8 z1 ?bQ,(?KW).length,ChL.piece,λZ G4 nZ g4 hZ=>?_,Kb.binds (ps:=?gF) (?P4 rK (λ_ _ _ _ _=>rfl)),"numbers_at",hch.plus,upd G1 t (?QF nv),#[ws,_,_,_,_,_,_,rfl,g,Ct,dd,CV],?J ?eO (?aB L') (?L0),λ_=>rfl,.of (?BI),.(show((?sU:Nat):Int)=?hG by omega),?J ?a5 (?aB E) fs,λg' a b G' sh z'=>?_,?PZ R.at,bH H10 p,l6c _ ?c5,(e▸ha),"Book.__init__",g1 _ _ hl1,λH1 s1=>?_,upd H4 nm ?bQ,Oc i _ hx,Lat.numAt,.(by simp[hal]),dn.2.2 i c hc,["k",?dW,?R],b*f j / g,(AS K Au),[?n,?eG,?a1,rS E,o4,o5],?K7 i [],x.keep s1,#[p,hp,pv],(Fg [0,2,3,4]).any,?rM<=1000,?i7 (λh4=>?_) (λh4=>?_),(?c ?o1),(z.same sn).there.1,ok d O9m,#[uR,WV,LR],∀a,?hQ->?q9,.(λi w p T6 hp=>by simp at T6),(o2 o3 o4:?e1),sx2.same,?b1 (VI n f).length ?fG,λp=>Lg xs k p.1 p.2,?P5 G' s',(x2.same s3).there.1,?I (?kX),ok p ?nV,#[us,hq,Zv],∀o,H c=?b9->G c=?b9,(?IS).length,#[E,eu,rfl,hE,rE],a=nm\/?ES,.of (?GL),Nat->Nat,.builtin,(?aO,?AU,?AU,([]:Ms)),((0:Nat):Int),p.1.toNat,.(show((k+1:Nat):Int)=?fU by omega),Kp H3 H',.(by rintro i v ys τ G pr hv Ea qX;revert τ;apply ?nB;intro g Ct hz1 o1 o2 Fv;subst hz1;let#[hi,l1,u1,ps,rfl,hps,hl1,pa]:=lev hv;let#[pl,nx,ok]:=?J4;have sp:?QC G ?J9:=?uP;have hp1:upd G pr (?UG ?lO) pr=?c (?UG ?lO):=Ab;generalize ?J9=G1 at sp hp1),.(by let#[p,k,B,xs,ls,rfl,bk,sB,hk0,mU,kq]:=h;let ?BD:=T.x_LEVELS;let#[dx,P,Lv,Lf,lu,wu,hp,_,TF,hW,_,_]:=bk.ob;let#[E,eu,qs,e1,e2,hE,rE]:=hW.at (k:=k.toNat) (by have:=bk.n4;ext cH)),.(by apply#[_,rfl,k,4,rfl,hk0,mU,?_];apply#[_,rfl,p,Au,dx,_,_,rfl,sB _ _ hp,?eX,?EP,rfl,_,rfl,Lv,lu,_,_,rfl,rfl,?OE sB TF,hat,E,rfl,#[_,?OE sB hE],?W]),.(by intro g Ct yl o Fv;let#[q,hq,pv]:=rE.get hv;let ?E7:=?v2 (?tX g);have Z9:?IJ ?aT=?oI++[q]:=by rw[qf8,hq];rfl),.(by let#[r',b',ly,_]:=y.ex;let#[tH,fs',EC,_,_,_,l4',_]:=ly.ob;apply#[_,rfl,p,tH,fs',rfl,EC,l4' _ ?c5,_,rfl,_,rfl,_,_,rfl,rfl,?_]),.(by rw[qb4]at e2;let#[ps,hps,rfl]:=?fC e2;have hpl:=(bk.lev _ _ hps).len bk.len;have nl:(Xp ps).length<=ps.length:=qh4 _ _;have el:=rE.len),.(by apply#[_,rfl,_,_,rfl,rfl,?GA,_,_,rfl,rfl,(?PK 2),rfl,_,rfl,?_];apply ?LN),.(by apply#[sF _ _ R.at,?eD,cs++[F],?hR,?D6,?_,_,rfl];apply ?nH hF sF ?_),.(by rw[hfs,Ar,?f8,Ar,?f8];rfl),.(by rintro i x zs τ G1 hx ⟨cs,rfl,hcl,R,o1,rfl⟩;have hi:i<n:=by have:=?kD;rw[qa2,xa.1]at this;ext bX),.(by let#[f1,f2]:=fin i D H1 hi hD s1 (by rw[Fa];congr 2;exact Qe λc _=>by simp[tQ]) λr hr=>by funext c;simp[tQ,hr]),.(by rw[show(?tR).toNat=i by omega]at e;have:ps'=ps:=qb9 (e.symm.trans hps);subst this),.(by exact#[_,rfl,_,rfl,L,_,_,i,rfl,rfl,f1,Jx (by rw[qa2,x.1];exact hi),#[_,rfl,f2]]),.(by let ?xN:=x.ob;let ?uS:=x.rw;let ?pT:=x.bk),.(by apply#[rfl,?Q5 g35,?bJ,(?l4 g35).turn hD,Ab,fin _ ?_,_,_,rfl]),.(by apply#[g,Ct,?_,_,rfl];rw[Z9,qg3,ql0,?R5 ?aK,qp2,qp3,yl]),.(by cases z;have usl:?CF:=?mY),.(by apply ?O9 (?T4 [?n,?eA,?a1] ?g3)),∀(Dc:Has P w K mg ?e ?o5 ?j9 3 (Fo K)),a,∀(Ch:Ka P w K mg ?e Ad ?u7 ?v3 4 (?OH Kj)),a,.(by rw[Ar,?rG,Ar,?rG]),.(by rw[hfs];exact qa5 ?h1 (?QY ?qX)),.(by exact decide_eq_decide.mpr #[λz=>V.int.inj z,λz=>?EI]),∀(Qr:Has P w K mg ?e ?K0 [?dE,?b0,?aP] 1 (Qi K)),a,∀(Ef:Has P w K mg ?e ?qO ?o7 2 (Hc K)),a,∀(K0:?SK P),a,.(by let ?xK:=?wH;let ?sP:=R.row i _ ?p5),∀(K3:Has P w K mg ?e ?r6 ?mK 3 (Rq K)),a,.(by exact#[?b5,λD hD=>?OD #[D,rfl,?bK,hD,Ab]]),.(by let#[c,_,ec,_,hc]:=?mI;rw[ec]at hx;cases hx),.(by let ?IY:=z.ob),.(by revert σ;apply XC ?_;intro us o12 o13 o14 ZK g Ct rU Fv),.(by rw[Ar,?f8]),∀(Fx:Has P w K mg ?e ?r1 ?pI 1 (Jh K)),a,.(by apply xB ?_;intro ws o1 o2 o3 o4 o5 o6 o7 g Ct dd CV Fv),.(by revert σ;apply KP ?_;intro ws o6 o7 hc2 GD dd CV hk Fv),.(by rintro zs τ G1 ⟨cs,rfl,hcl,R,_⟩;rw[qa2,xa.1]at hcl),.(by apply#[Z,_,rfl,?b4 (?QN ?jF g4),?_,?_]),.(by exact#[?O,?bU,?p4]),.(by obtain⟨ps,hps⟩:∃ps,ls[i]?=?kC:=?lI),.(by apply xC ?_;intro ws o2 o3 o4 o5 o6 o7 g Ct dd CV Fv),.(by exact#[?d9,?q0,?qR]),.(by apply(?OU p hp1)),.(by apply(?PE pp)),.(by apply(?PE pr)),∀(P0:Has P w K mg ?e "weigh" ["gauge",?dE] 1 (Yc K)),a,.(by have nN:?LS:=?SI x.nn),.(by rw[qk2 (by ext sK),qa2,xa.1];omega),.(by rw[qk2 (by ext sL),qa2,xb.1];omega),.(by exact λd hd=>?IZ),.(by revert σ;apply xE ?_;intro T o1 o2 hT s2 hT2 Fv),.(by exact λk k1 k2=>?KI k1 k2 _ _ _ _),.(by have ep:([]:?vQ)=ps:=?vE;subst ew ep),.(by let ?JJ:=hz;exact ?e7 (.of xa')),.(by revert σ;apply ?pW;intro o1 o2 hb1 Fa hk1 Fv),.(by rwa [?B8]at this),.(by exact sx1 b _ (Fh e hp ?dA) e),.(by have:¬c=i:=λe=>z e.symm;simp[Lat.one,z,this]),.(by rintro i ys τ H1 hi ⟨as,hal,rfl,R,o,rfl⟩),.(by apply KP ?_;intro E o3 o4 nE hE0 MX MY hk Fv),.(by apply#[_,rfl,?K,?K,?W]),.(by exact ?d6 ?k0),.(by apply XF ?_;intro us o5 g hpG rG h1G h2G Fv),.(by apply#[_,rfl,la,lu,rfl,?p hlq,?_];rw[Ab6]),.(by have cb:∀z:Int,V9 z g:=λz=>V9.of9 O9m lg),∀(Rg:Has P w K mg ?e ?rZ ?m5 2 (cB K)),a,@(qy5 ?a ?i ?_),@(Co (K:=K) (n:=2) ?f (Bf ?a (Bf ?b Cn))),@(λ_ _ _ _=>?a),@(Aa ?a (Aa ?b Ac)),@(key _ _ ?a),@(.of (?a _ _ ?b)),@(Bz P w K mg ?e Eo 2 f fd ?a ?b),@(.dK (cK ?a)),@(?a K Af Ad Ah),@(Bz P w K mg ?e Eo 3 f fd ?a ?b),@(N2 (Kt ?a Al Ny) ?f ?f ?dA ?gZ),@(Ay ?a0 ?a ?b ?F),@(Df (C9 (An ?a hr ?b))),@(Bz P w K mg ?e Eo 4 f fd ?a ?b),@(?a (K:=K) ?b),@(λy hy=>Jd (m:=101) (n:=101) (Td (?a y hy)) ?b ?M),@(λF=>?a F T ?b),@(Eu (K:=K) ?j ?a),@(?r ?a ?s),@(Bo ?a ?b Al ?w),@(uu ?a (λF=>?b F T) ?T),@(#[?a,_,rfl,.of ?b,rfl,_,_,rfl,_,_,rfl,rfl,?_]),@(uu ?a (λF=>?b F T) ?aJ),@(?J ?eO (?d L') (?J ?a5 ?cE ?a)),@(F1 λo1 o2=>τ=?a),@(#[_,rfl,?a,rfl,?b,?W]),@(?p #[rfl,_,.of ?a]),@(Bz P w K mg ?e Eo 6 f fd ?a ?b),@(Av (i:=2) ?a ?b),@(Jv (K:=K) ?f ?fH ?a),@(λi zs τ G1=>Dx λcs=>Bw (zs=cs.map ?aB) (cs.length=i) ?a (Dx λo1=>τ=[o1,?cQ])),@(λ_ _ _ _ _ _=>?a ?b),@(SX Ad H0 ?a p q M n W t i ?b),@(Bz P w K mg ?e Eo 1 f fd ?a (?b K)),@(Av (i:=?a) ?bY ?b),@(?a7 K ?a ?b=?bF),@(Ka ?a w K mg ?e ?b ?fJ ?gF 2 ?l0),@(Ka ?a w K mg ?e ?b ?c6 ?eK 3 ?kL),@(show(?a).all id=true by simp),@(Cj ?f ?aY ?a),@(.frz o (.dK (?a))),@(#[?a,_,rfl,?bO,rfl,_,_,rfl,_,_,rfl,rfl,?_]),@(σ'=[?n,?a6,?v,?bI,?bR,?c (?a ?eT),none,none,none,none,none,none,none]),@(Av (i:=3) ?a ?b),@(#[_,rfl,?a,_,_,_,rfl,rfl,?b,rfl,rfl,_,rfl,?_]),@(?a K ?b=true),@(Dx λo=>τ=?a),@(by show ?aO<?a;decide),@(Bk Cc Al ?a),@(?x [?eN,?d lp,?d gp,?d ?a]),@(Cr (K:=K) (a:=r) (xs:=?dU) ?a ?b (λi zs τ G1 _ hz=>by ext NW) ?_ ?_),@(?iS (k:=?p ?a) ?b ?iA),@(qc2 (Nat.le_of_dvd (Int.natAbs_pos.mpr O9m) (qv5.mpr sh.dA)) ?a),@(qj6 X G ?a),@(Dx λo1=>τ=?a),@(#[_,rfl,Ab,[(?d0 ?a,?dI)],rfl,?aD,?_]),@(upd H1 ?a (?x ?b)),@(Hv (λσ' H'=>σ'=?a/\?cV) ?_ ?r3),@(#[_,(Am (Be (L3 (An ?a hr ?a4) ?b))),?_]),@(C5 K ?a ?b),@(upd G E (?m [?g ?a,?b2,?b2,?b2])),@(#[_,rfl,p,Ah,dx,?a,rfl,Q0,?E,?b,O9m,?_]),@(s2 _ _ ?a),@(mkL (N:=?qC) hl1 R1 hl2 R2 ?a sN hfs hG4 (λ_ z=>z.elim)),@(Rep K (?a) ?jI (TH ?b)),@(#[_,rfl,?a,_,rfl,?b,_,rfl,?_]),@(us.length=?a),@(Bz P w K mg ?e Eo 8 f fd ?a (?b K)),@(?a _ _ Ct),@((?b4 ?a).turn ?b),@(D8 ?a ?b Al ?w),@(show j≠?a by omega),@(by let ?a:=hz;exact e),@(Fs [] [(?d0 ?a,?dI)]),@(Bs (?a (?hK)).length),@(?h ?a (?b)),@(SX Ad H0 ?a p q M n W t cnt ?b),@(OV ?lE 1 n [] ?a),@(?x [?g sv,?g ?a]),@(?c (?d ?a)),@(?N Ah dx (?J ?a5 ?a ?b)),@((?aR ?a).all ?b),@(λi j c hi hj hc=>GR (?a i j hi hj) (?b j c hj hc)),@(?h G2 (upd (upd G2 dl (.own ?a)) ?b (?N Af dl []))),@(λi ys τ H1 ?a hz=>by let ?kB:=hz;exact ?p2),@(λfr hc o e=>fr _ _ (?a _ hc).1 (?b _ hc).2.1 ?qV),@((?a).trans ?b),@(#[?a,rfl,?K,?K,?K]),@(qv7 X G ?a),@(?J ?dL (?f1) ?a),@(?a D=?c (?m zs)),@(upd H5 ?a (?N Ah dx (?J ?fY (?d nm) fs4))),@(upd (upd G3 dJ (.own L)) ?a (?N Af dJ [])),@(upd J4 ?a (?m [?d c1,?d c2,?d c3,?d c4])),@(?h G (upd G ?a ?b)),@(?c (?m (VI ?a ?b))),@(λk hk=>#[mk ?a bo.2 hi hk,mk ?b bo.2 hj hk]),@(qa5 ?a ?M),@(?p (?a _ _ ?b)),@(?mC K ?a ?qK=true),@(λi ys τ H1 _ hz=>by let ?a:=hz;exact ?b hq),@(#[_,rfl,_,rfl,_,_,rfl,rfl,?a,rfl,_,rfl,?_]),@(#[_,rfl,_,rfl,O9m,O9m,?a]),@(?a=(?b1 i ?fG).map ?bB),@(?a (by simpa using QZ)),@(λk hk=>#[mk ?a ?hX hi hk,mk ?b ?hX hj hk]),@(#[?bK,Ab,?a,?k,rfl]),@(λa o e=>sx _ _ (At e ?a) (s3 _ _ e)),@(Oa _ _ ?a),@(?a7 K ?a ?n0=?oG),@((?a).turn hD),@(Bo ?a ?h0 (An M8 hr (Aa ?c8 Ac)) ?w),@(B8 (Ma (K:=K) qg5 qm4 qm3 Kd ?l ?a)),@(?I (?X ((?a (?nN)).length:Int)=?jK)),@(#[_,rfl,_,rfl,_,rfl,c,_,rfl,?e7 ?a,?wW]),@(∀{G:Hp}{c:Addr},?yE->c∈?a->?M3),@(λc hc=>Jd ?a ?b ?M),@(upd G1 F (?m (Nd (VI ?hE (?gL)) ?a ?b))),@(nN9 K ?a),@(by show ?aO<?a;omega),@(B8 (M0 ?a ?E ?b hr)),@(#[P,us,rfl,.of ?a,?dG ?b r]),@(#[?a,ra,ga,fa,rfl,VL,e10,rL,e30,aA,bA]),@(Ks (An Ii hr (Aa ?a ?b)) (Kv ?Y ?o Fp)),@(Bz ?a w K mg ?e Eo 14 ?b fd ?pC (Xl K)),@(∀c q,c≠b->?hH->?a c=?dT->?b c=?dT),@(by show(?a:Nat)<=sizeLine;decide),@(?rQ K ?iE ?a=?c (?c ?b)),@((?v0&&?I (Bs (?hK).length=l))=?a),@(#[ta,us,rfl,?a,Zv,?b]),@(#[_,rfl,?a,o,?b,rfl,Ab,?_]),@(λi σ G _ hz=>by let ?a:=hz;exact ?b),@(λa e=>?a e),@(ChL xs ?a ?b),@(.of (kb ?a mdj _ (?l8 _ _ rdj))),@(.of (kb ?a mdi _ (?l8 _ _ rdi))),@(?a ?b (upd H1 L (?m (?sQ i (?d D))))),@(σ'=[?n,?eG,?a1,rS ?a,?bS,?eC]),@(vs d i ?a f l r hv O9m O9m O9m),@(Bz P w K mg ?e Eo 10 f fd ?a (?b K)),@(Bp (Cm ?a)),@(Ap (i:=?a) ?lL),@(?q ?c7 ?c7 (As ?a)),@(?I ((Bh xs p.2.1).length=0)=?a),@(#[a,b,xs,ms,rfl,hL,hb,hm,h4,?a,kq]),@(#[_,rfl,p,Au,dx,_,rfl,?a,?eX,?b,?aD,?_]),@(?a a=none),@(Bz P w K mg ?e Eo 7 f fd ?a (?b K)),@(Bz P w K mg ?e Eo 5 f fd ?a (?b K)),@(Av (i:=?a) ?cJ (Aw ?bE ?aW qh6 ?b)),@(?N Au dx (?J ?cK (?d ?a) ?sW)),@((?HY ?a).foldl (lift1 ?eL) lg),@(?a (by rw[qa2,qa2,qd9];omega)),@(λa e z=>?a a z e),@(qh4 (λp:BPart=>?I (p.1≠?a)) ?b),@(GZ ?a w K mg ?e Af ?dR 1 ?nI),@(EJ _ _ ?a (s5 _ _ ?b)),@(?q ?a ?cC (As ?b)),@((?aR ?a).map ?b),@(λ_ _ _ _=>(?OA (Ap (i:=0) ?a) (Ap (i:=1) ?b))),@(Ap (i:=?a) ?b),@(λi ys τ G _ hz=>by ext bW;exact ?OE ?a ?b),@(An ?a hr ?b),@(Aw ?a ?e5 B6 (?OC ?b (Gm (v:=.ty ?eP) rfl ?fD Fc rfl))),@(σ'=[?v,?bA,iS j,iS A,iS B,?cO,iS ?a,iS c,?c (?g ?c0),?c (?g ?dB),rS ci,rS di]),@(?c (?g ?a)),@(?c (.dK (cK ?a))),@(σ'=[?n,?aM,?aU,?aX,?aS,?d7,?e3,?a,?b,none,none,none,none,none,none,none]),@(?c (?m ?a)),@(σ'=[?n,?aM,?aU,?aX,?aS,?d7,?e3,?fL,?h8,?i2,?a,?b,none,none,none,none]),@(Ay ?bH ?a Al ?F),@(?c (?OG ?a)),@(σ'=[?n,?a6,?a,?b,none,none,none,none,none,none,none,none,none]),@(B8 (Ma (K:=K) qg5 qt3 qt2 Vj ?Y (?OC ?o (?a (K:=K) qg5 PySem.F.slot_list_pop PySem.F.type_list_pop fW ?Y ?a8)))),@(Am (B8 (Dr ?j ?O ?a hr ?b))),@(λσ' H'=>σ'=?a/\?b),@(σ'=[?n,?a6,?v,?bI,?bR,o5,?a1,?a,?b,none,none,none,none]),@(Bz P w K mg ?e Eo ?a f fd ?cC (?OH ?b)),@(σ'=[?n,?a6,?v,?bI,?bR,o5,?a1,?fK,?bT,iS ?a,rS hh,?c (.bl (?I (hw%3=0))),rS q]),@(σ'=[?n,?a6,?v,?bI,?bR,o5,?a1,?fK,?bT,iS ?a,rS hh,?c (.bl (?I (hw%3=0))),none]),@(?c3 (IC (?OS Dy (Bk Gu ?bM Al)) (CH (?OS ?a (Bk Gu (Bk cO ?bM Al) Al))))),@(WX K Af Ah H0 ?a p L R nm n w ?rN l r []),@(WX K Af Ah H0 ?a p L R nm n w ?k ?b r ?jS),@(LX ?a Af L O1 O2 ?k n n ?eB ?b),@(σ'=[?dP,?cQ,?a,none,none]),@(Df (C9 (Aw ?a ?e5 B6 (?OC ?b (Gm (v:=.ty ?kP) rfl T.n_tuple Ll rfl))))),@((?gK ?a).trans ?c1),@(H ?a=none),@(σ'=[?n,?Z,?aX,?aS,?eG,?jG,?a,o7]),@(σ'=[?n,?Z,?a,?b,none,none,none,none]),@([?n,?eA,?a1,?iU,?hF,?hI,rS e,?a,?b,none]),@(ED K H H' p d1 d2 l n us ?a ?b as ?yC),@(?a xs ?b z k0 L G f l r),@(uu ?a ?b (?P4 RK (λ_ _ _ _=>rfl))),@(Vd (K:=K) ?f ?lH ?a),@(#[t,Y,_,_,rfl,?QZ (?jF) tE,hY,?wT,qa5 (?a _).ok.len ?M,?KQ]),@([?n,?a6,?v,?bI,?bR,?a,none,none,none,none,none,none,none]),@(λj i=>Jc (?d8 (?wL j 0).toNat []) ((?jC).getD i ?a)),@(Am (Nw ?iK ?a (Bk Cc (?PL ?l) ?eH) (?PL ?eW) ?f)),@(σ'=[?dP,?cQ,?cO,?v,?a,none]),@(upd H6 ?a (?N Ah dx (?J ?hN (?d R') (?OW fs)))),@(Gz (Mb (K:=K)) ?f ?fD Fc ?a),@(LX H' Af ?a r1' XU ?k n n ?b (λa=>a=nm\/a=r2\/a=b2)),@(?x [?gS,?d y1,?d d2,?d ?a]),@(?x [?b2,?d x1,?d x2,?d ?a]),@(?c (?N ?a dx ?b)),@(WX K Af Ah H0 H' p L R nm n w ?k ?a ?pD ?jS),@(Rm K H' tp nm r1 D1 D2 b2 z (?d2) k0 ?a l r),@(H9 ?a=?QW n (?oS s.2 i j ?dB (-?c0) (-c) a ?b)),@(λi σ G _ hz=>by let ?x7:=hz;exact ?OE ?a ?b),@(σ'=[?v,?bT,o2,?a,?b]),@(uu ?a ?b ?aE),@(λj ys τ G _ hz=>by ext bW;exact ?OE ?a ?b),@(λi ys τ G=>Bw ?a ?c4 ?b (?OX [o1,o2,?n])),@(upd G ?a (?x ?b)),@(s1 _ _ ?a),@(Dr ?Y ?d9 Jz hr (Aa (Fq (Aa N1 ?a)) Ac)),@(H9 ?a=?QW W (?oS s.1 i j a c ?c0 ?dB ?b)),@(Dj (Pl (?OJ Al)) (Dj (Pl ?a) (Dj ?b N3))),@(Am (B8 (Dr ?j ?E Jy hr (?OC ?z ?a)))),@(upd H2 ?a (?PD ?c9)),@(upd ?a d (.dK (?QA ?b))),@(upd ?a T1 (?x ?b)),@(?x [?aL,?a]),@(?h ?a H'),@(λi zs τ G _ hz=>by ext bW;exact ?a),@(λi zs τ H1 _ hz=>by let ?a:=hz;exact ?b),@(uu ?a ?b ?T),@(Rep K H' (?d ?a) ?b),@(Rep K H' (?a) (dT (?gW) (?gW) ?hB)),@(?h H1 (?PT ?a ?b)),@(SX Ad H ?a p q (λa=>?s3) n ?hE t ?b s),@(Ag1 ?a w K mg ?e Af ?cL ?dR 1 ?nI),@(Rep K (?PX 1) ?a (?m (Fg ?t3))),@(Cl (?OL ?a ?b) ?r5 Bv),@(Bz P w K mg ?e Eo 4 f fd ?a (?OH ?b)),@(?iF K H' ?a ((?QE ?aT).map tI)),@(#[_,rfl,_,rfl,_,_,rfl,rfl,?a,rfl,?_]),@(λi ys τ H1=>Bw ?lM ?l3 ?m4 ?a),@(#[_,.of ?a]),@(SqT K ?a P ?rA),@(LX H' Af R r2 b2 ?k w w ?a ?p7),@(?d6 (?f6 ?a)),@(Jd (m:=101) (n:=101) ?a (Td ?b) ?M),@(Aa ?j (Aa ?a ?h9)),@(#[?a,_,?L,_,rfl,rfl,Ab,?_,?cB ?b,?F6]),@(?a=false),@(?a (Aw ?bZ ?cA Ei (Aa ?b Ac))),@(Am (Be ?a)),@(σ'=[?v,?bA,iS j,iS A,iS B,?cO,iS ?a,iS c,?SU ?c0,?SU ?dB,rS ci,none]),@(Aw ?bE ?aW qh6 ?a),@(σ'=[?v,?bS,?c (?g1),?SU (f i),?SU (f ?a),rS P]),@(H' ?a=?SX ?b),@(Iu (v:=?g ?a) ?f Fu ?bC),@(B8 (Ma (K:=K) qg5 qm4 qm3 Kd ?a (Aa ?b Ac))),@(Av (i:=7) ?dS (?SR P1 (?OC ?bM (An Ih hr (Aa ?a (Aa ?hM Ac)))))),@(Bk Cc ?a Al),@(Ao (λσ' H'=>Dx λ ?vL=>Bw (σ'=?nO) (G d=none) ?mR ?a) ?_ ?eF),@(H' ?a=?SV ?b),@(Av (i:=?a) ?gE ?b),@(σ'=[?n,?eA,?a1,?iU,?hF,?a,none,none,none,none]),@(Aa ?a (Aa (N2 (Kt ?j Al Ny) ?f ?f ?dA ?gZ) Ac)),@([?v,?bS,?c (?g1),?SU (f i),?SU (f ?a),none]),@(λi ys τ G=>Bw ?dM ?c4 ?a ?b),@(Df (C9 (?SS ?a ?b))),@(Ut λ ?IF ?xT ?v6=>Dw (?TS o4) ?a (J ?b t s)),@(Te ?d4 t0 (?d1 ?a)),@(Cl (?OS Dy ?a) (Am ?b) Bv),@(Aa ?o (?OC ?a ?b)),@(Ks (?SR Ii (Aa ?a ?b)) (Kv ?Y ?l Fp)),@(Ks ?a (Kv ?o ?z Fp)),@(#[_,rfl,?a,rfl,?b,?_]),@(?a d2=?T0 (E5 i)),@(?m [?d ?a]),@(Cl (?T9 Dy) (?TR ?a) Bv),@(upd ?a ?b ?cG),@(Nd us ?k (?a ?a3)),@(M4 lf (c.take ?a)),@(Av (i:=4) ?a ?b),@(#[_,(?V5 ?a),?_]),@(Cl (?a ?b) ?aQ Bv),@(Aa ?a Ac),@(Bt (N':=?F9) (cap:=?IB) ?f ?P (?PC ?eJ) (?OB (?SP 0 QD)) ?V (?OB ?a)),@(Bt (N':=[?pJ]) (cap:=?d5) ?f ?P ?a (?OB (?SP 0 qE)) ?V ?b),@(Aa ?j (?OC ?a (Ay ?a0 ?b ?y5 ?F))),@(Am (?V4 Be ?a)),@(B8 (?SR Dt (?OC ?l ?a))),@(λσ' H'=>Dw (?V8 j) (?UX H') ?a),@(Bb (K:=K) ?a),@(Ao ?a ?_ ?eF),@(C4 qd1 rfl ?a (?SP 8 ?dS) (Am ?b)),@(Am (B8 (?SR ?a ?b))),@(insAt ?L (?d ?a) ((?b).eraseIdx i)),@(Bt (N':=?LE) (cap:=?xR) ?f ?P (?P2 ?a8) (?SO cU cU) ?V (?OB (?SR ?a (Aa ?o ?b6)))),@(Bt (N':=[?fM]) (cap:=?d5) ?f ?P (?ON Cg ?a) (?OB (?SP 0 IL)) ?b (?OB (?SZ ?j))),@(Av (i:=?a) ?cJ ?b),@(Eu (K:=K) ?j (M1 K0 hr ?f ?rV (?OC (?SR Rg ?a) ?b))),@(Aa ?a (?W2 ?b)),@(Oo (?VL Oh ?l) (Nv (Bo Jb ?jU ?a ?w))),@(Aa ?l (Aa ?a ?b)),@(Bo ?a ?b Al ?w),@(Av (i:=5) ?a ?b),@(Aa ?a (Aa ?b ?kO)),@(Am (Cl ?a (?T3 Cw (?W2 (Fq ?b))) Bv)),@(C4 qd1 rfl (Ku ?l) ?a ?b),@(An ?a hr ?b),@(?a (K:=K)),@(Bk ?a ?b Al)])
noncomputable abbrev Hf:Stmt:=top 70
def Rs:?q ?kV ?kV (As Hf):=Bg
def Sg[?u](F:Et K ?m3 ?m3 Hf f fd)[?t] :?P6 ?kV Ki:=by
 apply ?OR Rs;let#[a,us,ps,rfl,ha,rU,hpl,kq]:=h;apply(?W0 (Bt (N':=["part"]) (cap:=?d5) ?f ?P ?jW (?OB (?SP 0 ZP)) (?OB (Ql (?WL Jb (?SZ ?j)))) (?OB ?j)));apply(?OY a (?UW ha));have ul:=rU.len
 let Bq6:?U:=?VK (B7 G ys (Xp (?d1 i))) ?fI
 apply Qw (K:=K) (a:=a) (xs:=us) Bq6
  (?R7 trivial) (λi ys τ G _ hz=>by let#[h1,_]:=hz;exact ?OE h1 ha) ?_ ?_
 . ext j3;ext b7;intro h1 Ct rY o Fv;have hi:=?fV;let ?LK:=rU.get hv;have pv1:=?v2 h1;let ?E7:=id pv1;have Z9:?d1 ?aT=?d1 i++[p]:=by rw[qf8,hp];rfl
   have yl:ys.length<=1000:=by
    have h2:=rY.len;have h3:=?SJ 1 (?d1 i);rw[qe2]at h3;unfold Xp at h2;omega
   ext yK
   . have QZ:¬?pA:=?cW
     apply#[_,rfl,Ct,?bJ,h1.turn hD,Ab,?_,_,rfl];rw[Z9,FU,?aK QZ];exact B7.snoc (B7.put Ct rY) (pv1.put Ct)
   . have QZ:?pA:=?cW
     apply#[h1,Ct,?_,_,rfl];rw[Z9,FU,?bG QZ];exact rY
 . rintro ys τ G ⟨h1,Ct,rY,_⟩;rw[ul,qe7]at rY;exact kq D ys G hD h1 Ct rY
noncomputable abbrev Lr:Stmt:=top 74
def Yn:?q ?pI ?pI (As Lr):=Bg
def Y5[?u](F:Et K ?r1 ?r1 Lr f fd)[?t] :?P6 ?pI Jh:=by
 apply ?OR Yn;let#[v,d,rfl,hd,k]:=h;apply(?W0 (M3 (?OS Dy ?l) (?Q7 Dy ?j) (?Q7 Dy (Bk Gu ?j ?l))));ext hD;ext a2
 . have h2:d=0:=?C
   subst h2;apply ?ID;rw[Aq6];have e:?I (?aO∣v)=?I (v=0):=by simp[Int.zero_dvd]
   rw[e]at k;exact k
 . have h2:¬d=0:=?C
   apply(?UU (?RK d));rw[Aq6];have e:?I (d∣v)=?I (v%d=0):=by simp[Int.dvd_iff_emod_eq_zero]
   rw[e]at k;exact k
noncomputable abbrev Pj:Stmt:=top 85
def cF:?q ?rS ?rS (As Pj):=Bg
def CQ[?u](F:Et K ?q5 ?q5 Pj f fd)[?t] :?P6 ?rS Tk:=by
 apply ?OR cF;let#[a,ns,k,rfl,hS,h0,hl,kq]:=h
 apply#[_,(Ag (Cl (Bo AV ?l ?fA ?w) (?V5 (?OK ?j ?l)) Bv)
  (?V5 Al)),?_]
 ext G
 apply#[_,rfl,_,rfl,a,_,rfl,?p hS,_,_,rfl,rfl,_,rfl,?_];ext a2
 . have h2:k<(ns.length:Int):=?C
   have e:dX (?kW) k=?SU (f8 ns k):=by
    let#[j,rfl]:=qj9 h0;apply Bp ?_;have hj:j<ns.length:=O9m
    rw[qb4,qa1 hj];simp[f8,hj]
   exact#[_,rfl,_,rfl,a,_,k,_,rfl,rfl,hS,e,kq]
 . have h2:¬k<(ns.length:Int):=?C
   have e:f8 ns k=0:=by
    unfold f8;have:ns.length<=k.toNat:=O9m
    simp[this]
   rw[e]at kq;exact kq
noncomputable abbrev Vc:Stmt:=top 86
def Hz:?q [?kQ,?AI,?pJ,"_law_lift","_law_j"] [?kQ] (As Vc):=Bg
def IJ[?u](F:Et K ?oE ?oE Vc f fd)[?t] :?P6 [?kQ] Th:=by
 apply ?OR Hz;let#[n,rfl,h2,Eb,kq]:=h;have j8:=hr.u8
 apply#[_,(Ag (Av (i:=1) ?kU (F7 (?W2 Fr)))
  (Ag (C4 qd1 rfl (?PC ?a4) (?SP 2 ?kU) (Ag (?PG ?kU Fr)
  (Ag (?VO ?o (Av (i:=3) ?kU (?OJ (Bk Cc Al ?j))))
  (Ag (C4 qd1 rfl (Ve ?f ?aY (Aa Al ?aI)) (?SP 4 ?kU) (Am (Nw ?iK ?z (Bk Cc (?PL ?j) ?S) (My Hu Al) ?f)))
  (Am (?RD ?nE))))))
  (?V5 (Bk ?oQ ?l (?W4 (?PC ?a4) (λ_ _ _ _=>Fr)))))),?_]
 ext G
 apply ?O9 (λσ' H'=>F1 λ(D d:Addr)=>G9 (σ'=[?a6,?Z,none,none,none]) ?rP ?aA (?eS=?SX [?d d]) (?tI) (H' d=?k8))
 . apply ?K2;have s1:?QC H ?t7:=?l7;have e1:upd H d ?cG d=?k8:=Ab;generalize ?t7=H1 at s1 e1;apply#[?a9,?W];have s2:?h H1 (upd H1 D (?VU d)):=?bK;exact ?OD #[D,d,rfl,?gH hD,?eE,Ab,hd,s2 _ _ e1]
 apply OO λD d0 H1 nD s1 hD nd0 hd0=>?_;intro sq
 have dn0:?nU H H1 [d0] ([[]]:?cR Ms):=#[rfl,?aD,λi a ha=>by
  match i,ha with
  | 0,ha =>
    have:d0=a:=qb9 ha;subst this;exact#[nd0,hd0]
  | i+1,ha=>simp at ha]
 apply ?O9 (λσ' H'=>Xy λ ?i3 ?LU=>Bw (σ'=?I4) ?aA (?eS=?r0) (?nU H H' as ([[]]++?IW (F0 n))))
 . ext z9;rw[qd6]
   let Bq5:?aN:=λi σ G=>Xy λ ?i3 ?LU=>Bw (σ=?I4) ?dM (G D=?r0) (?nU H G as ([[]]++?l6 (F0 n)))
   apply Eh (lo:=0) (n:=n) Bq5 #[[d0],?k,?k,?k,rfl,s1,hD,dn0] ?_ ?_
   . rintro i σ G hi Ea
     ext aH
     revert σ;apply XD ?_;intro as o2 o3 o4 g Ct dn Fv;have asl:as.length=1+i:=?CK
     ext s8;apply ?VE (H' d=?k8);ext cI
     . exact λd hd=>?R9 ?G4
     apply Mm λd1 G1 nd1 g1 hd1=>?_;intro sq;apply ?VE (H' d=?T0 (cY n i 0));ext cI
     . ext hD;ext a2
       . have hi0:i=0:=by
          have:?a3=0:=?C
          omega
         apply λd hd=>#[_,rfl,_,_,rfl,rfl,Ab,[(?d0 (?gR),?dI)],rfl,?aD,?_]
         have e3:?UE (?VW G1 d) (?gR)=upd G1 d (?OG [(?gR,1)]):=by
          funext b
          by_cases hb:b=d
          . subst hb;rw[Ab,Ab];rfl
          . ext sJ
         rw[e3];apply ?R9 #[d,rfl,g1.free hd,?iB (?l7),?_];rw[Ab];unfold cY;rw[?bG hi0]
       . have hi0:¬i=0:=λz=>by
          have:¬?a3=0:=?C
          omega
         apply ?R9 #[d1,rfl,nd1,g1,?_];unfold cY;rw[?aK hi0];exact hd1
     apply Mm λd G2 uU g2 hd2=>?_;intro sq;have nHd:?tI:=?uL uU;apply ?WA (λσ' H'=>Dx λo4=>Dw (σ'=?nO) ?mR (H' d=?T0 (F0 n i)));ext cI
     . apply#[_,rfl,1,?a3,rfl,?EZ,?_];rw[show(?a3-1).toNat=i-1 by omega]
       let Bq4:?aN:=λm σ G'=>Dx λo4=>Dw (σ=?nO) ((∀c o,c≠d->G2 c=?b9->G' c=?b9)) (G' d=?T0 (cY n i m))
       apply Eh (lo:=1) (n:=i-1) Bq4 #[_,rfl,λc o _ e=>e,hd2] ?_ ?_
       . rintro m σ G' hm Ea
         ext aH
         revert σ;apply XG ?_;intro o4 gg hdG Fv;have hi0:¬i=0:=O9m
         have ll:=QO n i m;apply#[_,rfl,_,rfl,_,rfl,_,_,rfl,rfl,_,rfl,_,_,rfl,rfl,d,_,rfl,?PO (?gR+(1+?cT)) hdG,?_];rw[Sw,qO hi0];exact#[_,rfl,λc o hc e=>by rw[Ak hc];exact gg c o hc e,Ab]
       . rintro σ G' Ea;revert σ;apply XG ?_;intro o4 gg hdG Fv;apply ?R9 #[o4,rfl,λc o e=>gg c o (λz=>by rw[z,uU]at e;cases e) (g2 _ _ e),hdG]
     apply O0 λo4 G3 g3 hd3=>?_;intro sq;have dH:=?Q5 g3
     have nda:?DQ:=λz=>by
      let ?tN:=qf7 z;have:=(?CN).2;rw[uU]at this;cases this
     have nDd:d≠D:=λz=>by rw[z,Ct]at uU;cases uU
     apply#[_,rfl,?OZ dH,_,rfl,D,_,_,rfl,rfl,dH,?eD,as++[d],_,_,_,rfl,?Q6 g3 nD,?_,?_]
     . rw[Ab,qb0];rfl
     . rw[qg6,qb0,←qh8];have RM:=(dn.same g3).snoc (c:=d) (m:=F0 n i) nda nHd hd3
       exact#[RM.1,RM.2.1,λk a ha=>#[(?t9).1,by
        rw[Ak λz=>by
         have:=?mE;rw[z,dH]at this;cases this]
        exact ?mE]]
   . ext bN;apply XD ?_;intro as o2 o3 o4 g Ct dn Fv;exact ?OD #[as,o2,o3,o4,rfl,g,Ct,dn]
 apply wJ λas o2 o3 o4 H2 s2 Xt dn=>?_;intro sq;have asl:as.length=1+n:=?CK
 apply#[_,rfl,_,rfl,_,rfl,O9m,O9m,?h5];rw[qd6]
 let Bq3:?U:=λi ys τ G=>Dx λ(bs:?iX)=>Er (?h H2 G) ?AN (ys=?f3) (?nU H2 G bs (?b1 i [])) (?PR [o1])
 apply Ik (lo:=0) (n:=n) Bq3
  #[[],?fZ,Ab,rfl,#[rfl,List.nodup_nil,λi a ha=>by simp at ha],?k,rfl] ?_ ?_
 . rintro i ys τ G hi ⟨bs,g,MY,rfl,dn2,o1,rfl⟩;have bl:?B6:=?D8
   apply ?K2;have g2:?QC G ?u8:=?l7;have e2:upd G d ?cG d=?k8:=Ab;generalize ?u8=G2 at g2 e2
   have ndb:d ∉ bs:=λz=>by
    let ?tN:=qf7 z;have:=(dn2.2.2 k d hk).2;rw[hd]at this;cases this
   have RM:=(dn2.same g2).snoc (c:=d) (m:=[]) ndb (?uL hd) e2;have hE2:=?wF;apply#[hE2,?eD,bs++[d],?iH hE,Ab,?hR,?_,_,rfl];rw[qi5]
   exact#[RM.1,RM.2.1,λk a ha=>#[(?t9).1,by
    rw[Ak λz=>by
     have:=?mE;rw[z,hE2]at this;cases this]
    exact ?mE]]
 . rintro ys τ G ⟨bs,g,MY,rfl,dn2,_⟩;have bl:bs.length=n:=?D8
   apply#[D,E,_,_,rfl,rfl,?OE g Xt,.of MY,B9 (by rw[qa2,qa2];omega),?wW];have gF:?QV F (?m (?dU++?f3)):=?vC;apply kq F (as++bs) _ ((?jL).free hF) (?A1 gF) (by rw[Ab,qb0]) ?_;exact(dn.append dn2 s2 g).same gF
noncomputable abbrev Ib:Stmt:=top 2
def To:?q ?o7 ?o7 (As Ib):=Bg
def Tv[?u](F:Et K ?qO ?qO Ib f fd)[?t][?s6]:?OF ?o7 (Hc K):=by
 apply ?OR To;let#[x,d,b,rfl,hx,k]:=h;apply(?PV Eg (Kw (pS pW AV Al ?j ?l)));apply#[_,rfl,x,d,rfl,hx,_,rfl,?_];ext z8
 . let#[i,rfl]:=HE e;cases (show x=?aL from hx);ext sB;apply ?i7 (λe1=>?_) (λe1=>?_)
   . apply ?AS;have e2:?xV=?xJ:=by show(?I (0<=i)&&?xJ)=_;rw[e1];rfl
     rw[e2]at k;exact k
   . have e2:?V3 ?xV:=by show(?I (0<=i)&&?xJ)=_;simp at e1;simp;omega
     rw[e2]at k;exact k
 . have e2:belowD d b=false:=by
    cases d<;>first | rfl | (exfalso;exact e rfl)
   rw[e2]at k;exact k
noncomputable abbrev iB:Stmt:=top 14
def Xn:?q [?fW,?dK,?dW,?b0,?aP] ?rT (As iB):=Bg
def UN[?u](F:Et K ?m9 ?m9 iB f fd)[?t][?N2]:?OF ?rT (Xk K):=by
 apply ?OR Xn;let#[a,b,ms,ns,rfl,ha,hb,hm,hn,k]:=h
 apply#[_,(Ag (?P1 Xn.nd (Gz jJ ?f ?vF Oi ?a4))
  (Ag (CI (?WP (?OA (?SP 3 Xn.nd) (?SP 4 Xn.nd)) (?WC Qr (?VP ?z ?S))))
  ?lB)),?_]
 ext G
 apply#[_,rfl,a,?c9,rfl,ha,?W];have HA:b≠D:=At hb hD;apply ?A #[b,?pG,(by rw[Ak HA];exact hb),?kJ];apply(?RV b ?pG)
 let Bq2:?aN:=λi σ H1=>F1 λo1 o2=>Bw (σ=[?n,?e2,?Z,o1,o2]) (H1 b=?c (?PD ?pG)) (H1 D=?T0 (?zU)) ((?RQ H H1))
 apply Qs (d:=b) (o:=o) (kvs:=?pG) Bq2
  ?B2 (λi σ H1 _ hz=>?JA) ?_ ?_
 . rw[?IC,Ab];rfl
 . intro c q n1 n2 e;rw[?lP,Ak n2];exact e
 . rintro i kk x σ H1 p hx Ea hp
   ext aH
   ext NX;ext lW;have npb:b≠p:=At hb1 hp;have npD:D≠p:=At Fa hp;have hlt:?qT:=?mQ;ext hC;apply#[_,rfl,_,rfl,_,rfl,D,?zU,q.1,q.2,rfl,(by rw[Ak npD];exact Fa),?_,?_]
   . have:=gA (ns.take i) ms;rw[qe2]at this;omega
   . apply#[_,_,rfl,?_,?_,?DV]
     . rw[Ak HA,Ak npb];exact hb1
     . rw[Ab,mE hq]
     . rw[Ak n2,Ak (At (?H7) hp)];exact ?H7
 . rintro σ H1 Ea;ext NX;rw[Ga,qe7]at Fa;apply#[hb1,_,rfl,k D _ hD (λc q e=>?_) (by ext j6;exact Fa)];by_cases z:c=b
   . ext z5
   . rw[?i4];exact hk1 c q z (At e hD) e
noncomputable abbrev Hg:Stmt:=top 32
def Rt:?q ?gA ?gA (As Hg):=Bg
def Sh[?u](F:Et K ?qN ?qN Hg f fd)[?t][?lT]:?OF ?gA (C8 K):=by
 apply ?OR Rt;let#[a,i,xs,rfl,hL,K6,k]:=h;let ?M2:=?BX;let#[_,us',z,hq',r]:=?jN;apply(?W0 (Bt (N':=[?b0,?i0,"k"]) (cap:=[none,none,?h6]) ?f ?P (?P2 ?a4) (?SO WW WW) (?OB (Ql (Bo Dy (?SR Db ?a8) ?o ?w))) (?OB ?j)));cases z;apply(?OY a #[us',hq']);have Be0:us'.length=xs.length:=?mY
 let Bq1:?U:=λj ys τ H1=>Er (j<=us'.length) ?lM ?l3 (ys=(Mx xs i j).map ?X) (?OX [o1,o2,?bA])
 apply Nf (K:=K) (a:=a) (xs:=us') Bq1
  #[?b5,?bK,Ab,rfl,?k,?k,rfl] (λj ys τ H1 _ hz=>by let#[_,s1,_]:=hz;exact ?f7 hq') ?_ ?_
 . rintro j v ys τ H1 p hv Ea hp;revert τ;apply QS ?_;intro hj s1 Fa hys o1 o2 Fv;have hj2:j<us'.length:=?fV;have hj3:j<xs.length:=O9m
   let ?x2:=r.getV hv
   have edv:dv=tI (?vN):=by
    rw[qb4,qa1 hj3]at kU;rw[qa0,qa1 hj3];simpa using kU.symm
   subst edv;have sp:?UN p [?g j,v]:=?cS;ext hC;apply#[_,rfl,v,?EN,rfl,?A (?H (?k6) rv),_,rfl,rfl,_,rfl,?_];rw[show(?EN).length=?AL from ?wQ];have hDp:(?PT p [?g j,v]) D=?rJ:=?tO;have yl:ys.length<=j:=by rw[hys,qa2];exact Gc ..
   apply ?x9
   . have h3:?GB:=?cW
     apply#[_,rfl,hDp,?bJ,O9m,?RB ?k6,Ab,?_,_,_,rfl];rw[Y0 h3,qb0,hys];rfl
   . have h3:¬?GB:=?cW
     apply#[O9m,?k6,hDp,?_,_,_,rfl];rw[CM h3];exact hys
 . rintro ys τ H1 ⟨_,s1,Fa,hys,_⟩;rw[Be0]at hys;apply k D H1 hD s1 ?_;rw[Fa,hys];rfl
noncomputable abbrev F4:Stmt:=top 36
def Pd:?q ?s0 ?s0 (As F4):=Bg
def Po[?u](F:Et K ?nJ ?nJ F4 f fd)[?t][?s6]:?OF ?s0 (Ja K):=by
 apply ?OR Pd;let#[a,n,f,rfl,hq,hn,k]:=h;apply#[_,(Am (Be (L3 (?SS (?WR E8) ?j) (L3 (D8 Dy ?fA ?l ?w) (?V4 Kw (Bt (N':=[?aP]) (cap:=?d5) ?f ?P ?jW (?OB (?SP 0 qI)) ?V (?OB (?SR Eg ?a4)))))))),?_];apply#[_,rfl,?h7,?eP,dL n f,rfl,?A (?A (?A (?A (?cD)))),RU hq,_,rfl,?_];apply mT (by simp[MQ,dL]) ?_;apply#[_,rfl,a,_,rfl,?gC,_,rfl,rfl,_,rfl,?_];apply mT (isI (?u5)) ?_;ext s9
 let Bq0:?U:=?UV ?fI
 apply Cr (K:=K) (a:=a) (xs:=VI n f) Bq0
  ?cN (?QL _) ?_ ?_
 . ext zF;ext b7;ext zA;let ?K5:=V6 hx;apply#[_,rfl,_,?g (f i),rfl,rfl,Fa,?xM,?tY,Ab,?_,_,rfl];ext j5
 . ext z6;apply#[D,?LW,rfl,?rF,?_];rw[?PB ?LW];exact ?hW
noncomputable abbrev Vb:Stmt:=top 38
def IA:?q ?gO ?gO (As Vb):=Bg
def iJ[?u](F:Et K ?q7 ?q7 Vb f fd)[?t](DG:Has P w K mg ?e ?C1 [?a5,"j"] 1 (aQ K)):?OF ?gO (Hw K):=by
 apply ?OR IA;let ?HZ:=h;apply(?W0 (Bt (N':=["j",?a5]) (cap:=?tW) ?f ?P ?qA (?OB (?SP 0 zT)) ?V (?OB (?SR DG (Aa ?l ?a4)))));ext z2
 let Bp9:?U:=λi ys τ H1=>Dx λas=>Bw ?q1 ?oW (?dD H H1 D as h (λi j=>f j i)) (?PJ [o,?dQ])
 apply Lk Bp9
  ?l1 ?_ ?_
 . ext O1;have hi2:i<w:=O9m
   apply#[_,rfl,_,rfl,v,h,w,i,f,?IN,?I5,hh,hi2,?wP];ext yJ
 . ext yM
noncomputable abbrev IB:Stmt:=top 40
def tZ:?q ?m5 ?m5 (As IB):=Bg
def uO[?u](F:Et K ?rZ ?rZ IB f fd)[?t](Z0:Has P w K mg ?e ?B0 [?uB,"i"] 1 (Yd K)):?OF ?m5 (cB K):=by
 apply ?OR tZ;let ?KC:=h;apply(?W0 (Bt (N':=["i",?uB]) (cap:=?tW) ?f ?P (?PC ?a4) (?OB (?SP 0 zS)) ?V (?OB (?SR Z0 (Aa ?l ?a4)))));ext z2
 let Bp8:?U:=λi ys τ H1=>Dx λas=>Bw ?q1 ?oW (?dD H H1 D as n (λi j=>?jT)) (?PJ [o,iS n])
 apply Lk Bp8
  ?l1 ?_ ?_
 . ext O1;apply#[_,rfl,_,rfl,n,i,?IN,hn,?wP];ext yJ
 . ext yM
noncomputable abbrev Nq:Stmt:=top 42
def Gb:?q [?fY,?a5,?b3,?dW,?aP,?gM] ?uM (As Nq):=Bg
def v3[?u](F:Et K ?oK ?oK Nq f fd)[?t][?yQ]:?OF ?uM (Q9 K):=by
 apply ?OR Gb;let#[x,v,h,w,a,f,rfl,hx,hv,hh,hw,hm,k]:=h;let#[tb,us,rfl,hq,Zv,Oc]:=?jZ
 apply#[_,(Ag (?PG ?n6 (Bk PV ?JR ?o))
  (Ag (C4 qd1 rfl (?TN ?b6) (?OA (?SP 4 ?n6) (?SP 5 ?n6)) (Am (?PG ?n6 (?SR Ii (Aa Al (Aa ?z (Aa ?S ?dX)))))))
  (?V5 ?z))),?_]
 ext G
 apply ?O9 (λσ' H'=>Dx λT=>Bw (σ'=[rS x,rS tb,iS w,rS T,none,none]) (?TG T) ?aA (?V9 T (VI w λ_=>0)))
 . apply#[?a9,λl0 hl0=>?_];have s0:?h H (upd H l0 ?n9):=?y hl0;apply#[_,rfl,l0,_,_,rfl,rfl,Ab,O9m,O9m,?yG,λT hT=>?_];apply ?OD #[T,rfl,?o4 hT,?uJ (?y hT),?_];rw[Ab,qd6,Af2]
 apply Mm λT0 H1 hT0 s1 hT1=>?_;intro sq;apply#[_,rfl,_,rfl,x,tb,rfl,#[_,?f7 hx],#[_,?p2],?_]
 apply VJ (K:=K) (a:=x) (b:=tb) (xs:=VI h a) (ys:=us) (n:=h) (by rw[Bu,Zv,qv2]) (λi σ H2=>Ut λT o1 o2=>Bw (σ=[rS x,rS tb,iS w,rS T,o1,o2]) (?TG T) (?h H H2) (H2 T=?SX (VI w λj=>Aj (λk=>a k*f k j) i)))
  #[T0,?k,?k,rfl,hT0,s1,hT1] (λi σ H2 _ hz=>by let#[_,_,_,_,_,s2,_]:=hz;exact#[s2.seq hx,s2.seq hq]) ?_ ?_
 . rintro i u v σ H2 pr hu hv Ea hp;ext NT;let ?K5:=V6 hu;let ?FX:=Oc i _ hv;have sp:?h H2 (upd H2 pr (?x [?g (a i),?mG])):=?cS;ext NN;apply#[_,rfl,_,rfl,_,rfl,1,a i,T,b,w,_,f i,rfl,?OE sp hT2,(?t5).seq hb,O9m,λj hj=>#[?vJ,hm i j hi hj],λD H3 hD s3 dH=>?_];apply#[D,_,_,rfl,(?t5).free hD,?QN ?t5 s3,?_];rw[dH]
   congr 2
   apply Qe λj hj=>?_;show 1*_+_=Aj _ i+_;rw[qd7]
 . rintro σ H2 Ea;ext NT;exact#[_,rfl,k T H2 hT s2 hT2]
noncomputable abbrev Ph:Stmt:=top 46
def No:?q [?dE,?w7,?aP,"i","face"] ?t8 (As Ph):=Bg
def CP[?u](F:Et K ?rR ?rR Ph f fd)[?t][?N2]:?OF ?t8 (Tj K):=by
 apply ?OR No;let#[a,v,ms,fs,n,rfl,ha,hv,hm,kq]:=h;let#[af,rfl,sq]:=TI.sq hv;apply#[_,(Am (C4 qd1 rfl (pO (K:=K) ?f ?fH ?a8) (?OA (?SP 3 No.nd) (?SP 4 No.nd)) (?WC Qr (Aa ?j (?OC ?S (M3 (?WL Dy (?WS Gu ?z)) ?o (My Hu ?o))))))),?_]
 let Bp7:?aN:=λi σ H1=>∃o1 o2,σ=?CB/\Rj a H H1/\H1 a=?T0 (?J1)
 apply#[_,rfl,af,rfl,#[_,sq],nC (K:=K) (a:=af) (xs:=fs.map ?X) Bp7
  #[?k,?k,rfl,λ_ _ _ e=>e,ha] (λi σ H1 _ #[_,_,_,s1,_]=>SqT.x s1 ha sq) ?_ ?_]
 . rintro i x σ H1 p hx Ea hp
   ext aH
   apply ex2 ?_ Ea;clear Ea;intro o1 o2 Ea;apply Bl4 ?_ Ea;clear Ea;rintro rfl s1 ha1;have hi:i<fs.length:=?vS
   have hxv:x=?jO:=by
    ext yP
   subst hxv;have sp:?UN p [?aL,?jO]:=?cS;have ha2:=sp _ _ ha1;have hl:=Vo ms fs n i;ext hC
   have fin:∀m,m=kD n i->Qi K [?h7,?jO,?g m] (?PT p [?aL,?jO]) (λv H'=>∃o1 o2,([?n,rS af,iS n,?bS,?c (?jO)]:St)=?CB/\Rj a H H'/\H' a=?T0 (Ho ms fs n ?aT)) E0:=by
    intro m hm2;subst hm2;apply#[a,?J1,_,_,rfl,ha2,O9m,_,_,rfl,λc q n1 e=>?_,Ab];rw[?lP];exact sp _ _ (s1 c q n1 e)
   apply#[_,rfl,_,rfl,_,rfl,_,_,rfl,rfl,(?PK 2),rfl,_,rfl,?_];ext a2
   . have h2:?a3%2=0:=?C
     exact#[_,rfl,fin n (by unfold kD;rw[?q4])]
   . have h2:¬?a3%2=0:=?C
     exact#[_,rfl,_,rfl,fin (-n) (by unfold kD;rw[?n5])]
 . rintro σ H1 ⟨o1,o2,rfl,s1,ha1⟩;rw[qa2]at ha1;exact kq H1 s1 ha1
noncomputable abbrev Yr:Stmt:=top 53
def U3:?q [?qS,?c6,?dW,"i"] ?sY (As Yr):=Bg
def MF[?u](F:Et K ?o3 ?o3 Yr f fd)[?t][?yQ]:?OF ?sY (Yi K):=by
 apply ?OR U3;let#[r,u,as,n,W,f,t,rfl,x,hu,hm,hn,hW,k]:=h;have hq:SqL K H r ?j1:=.of x.2.1
 apply#[_,(Ag (?P1 U3.nd (?TU ?a4))
  (Ag (?PG U3.nd ?d3)
  (Ag (Cl (Bo Dy ?d3 N1 ?w) (Am (?VR (Bt (N':=[?aP]) (cap:=?d5) ?f ?P (Cg (K:=K) ?iJ) (?OB (?SP 0 qI)) ?V (?OB (My Hu ?j))))) (Am (Cl (Bo Dy ?d3 N1 ?w) (Ag (?VR (?OK ?j ?d3))
  (Am (Ks ?iJ (Kv ?o ?d3 Fp)))) (Am (?VR (?SR Ii (Aa Al (Aa ?iJ (?OC ?d3 (Ay ?a0 ?j ?d3 ?F))))))))))
  ?lB))),?_]
 ext G
 apply#[_,rfl,r,?dU,rfl,?gC,λL hL=>?_];have sL:?QC H ?zW:=?y hL;generalize hHL:?zW=HL at sL;have hLL:HL L=?r0:=by rw[←hHL];exact Ab
 have hqL:SqL K HL r ?j1:=?k5 hq
 have fin:∀(i:Nat) (D:Addr) (H1:Hp),i<n->HL D=none->?BO->H1 D=?QW W (tQ t f i)->(∀r,r≠i->tQ t f r=f r)->H1 L=?r0/\?S1 Q (?d L):=by
  intro i D H1 hi hD s1 h1 he;have nDL:D≠L:=λz=>by rw[z,hLL]at hD;cases hD
  apply#[?U8 hLL,?_];have s2:?S1 ?h H:=(sL.trans s1).turn hL;apply k L (as.set i D) _ hL s2 (x.made s2 hi Ab (by rw[Ak nDL];exact h1) he) ?cF;rcases qo2 ha with ha | rfl
  . exact#[?p ha,λz=>x.there.2 a ha (z▸hL)]
  . exact#[?A (sL.free hD),nDL]
 cases t with
 | sw i j=>exact hm.elim
 | mi i =>
   have hi:i<n:=hm;let ?F2:=hu;let ?DS:=rT;have hT1:SqT K HL ta [V.str "minus",?X i]:=?FS;let#[b,_,eb,_,hb]:=?DL;apply ?BS;ext yR;apply mT ?c5 ?_;apply#[_,rfl,_,rfl,r,_,_,_,rfl,rfl,hqL,Bp eb,b,rfl,#[_,?k5 hb],?W]
   let Bp6:?U:=λc ys τ H1=>Bw (?BO) ?l3 (ys=VI c (λc=>-(f i c))) ?fI
   apply Cr (K:=K) (a:=b) (xs:=VI W (f i)) Bp6
    ?cN (λc ys τ H1 _ hz=>by let ?kB:=hz;exact ?f7 (?k5 hb)) ?_ ?_
   . rintro c y ys τ H1 hx Ea;ext b7;ext zA;let#[hc,rfl]:=V6 hx;apply#[_,rfl,_,rfl,Fa,?G5,?tY,Ab,?_,_,rfl];rw[Ur]
   . ext z6;rw[Bu]at Fa;ext MP
     ext MR
 | ad i j m =>
   let#[hi,hj,hij,hm]:=hm;let ?F2:=hu;let ?IR:=rT;have hT1:SqT K HL ta [V.str "add",?X i,?X j,?X m]:=?FS;let#[bi,_,ebi,_,hbi]:=?DL;let#[bj,_,ebj,_,hbj]:=?ON x.row hj;apply ?BS;ext yR;apply ?BP;ext yR;apply ?BP;apply#[_,rfl,_,rfl,r,_,_,_,rfl,rfl,hqL,Bp ebi,_,rfl,ta,_,_,_,rfl,rfl,hT1,rfl,_,rfl,_,rfl,ta,_,_,_,rfl,rfl,hT1,rfl,r,_,_,_,rfl,rfl,hqL,Bp ebj,?_];apply#[1,m,bi,bj,W,f i,f j,rfl,?k5 hbi,?k5 hbj,hW,λc hc=>#[?vJ,hm c hc],λD H1 hD s1 Fa=>?_];ext MP
   ext MR
noncomputable abbrev Fe:Stmt:=Ev ?JT 2
def De:?q [?aF,"i","j",?fW,?dK,?hT,"a","b","c","d",?gM,"back"] ?gF (As Fe):=Bg
def Pr[?u](F:Et K ?fJ ?wE Fe f fd)[?t](Gn:Has P w K mg ?e ?B9 ?rT 1 (Wj K))[?yQ]:?OF ?gF ?l0:=by
 apply ?OR De;let#[p,C,r,b,sv,n,W,i,j,A,B,s,N,rfl,hC,x,hi,hj,hij,hn,hW,hA,hB,lA,lB,bo,k]:=h;ext MS;let ?H8:=x.refs;have rb:=x.ne
 have hc:?DA:=by
  rcases hC with rfl | rfl
  . ext NK
  . ext NH
 apply#[_,(Ag (?VG 5 (?SR Gn (?OC ?z ?S)))
  (Ag (?VG 6 ?c2)
  (Ag (?VG 7 ?c2)
  (Ag (?VG 8 (My Hu (Bk Kx ?S ?c2)))
  (Ag (?VG 9 (Bk Kx ?z ?c2))
  (Ag (?VG 10 ?c8)
  (Ag (?VQ ?e6 (?WN ?m6 ?bM))
  (Ag (?RO ?eH (?WN ?m6 ?eW))
  (Ag (?VG 11 ?c8)
  (Ag (?VQ ?eW (?WN ?iO (My Hu ?eH)))
  (Ag (?RO (My Hu ?bM) (?WN ?iO ?e6))
  (?V5 ?aZ)))))))))))),?_]
 ext G
 apply ?O9 (λσ' H'=>Xy λ(L:Addr) (g a c:Int)=>Bw (σ'=[?v,?bA,iS j,iS A,iS B,?cO,none,none,none,none,none,none]) ?aA (SqT K H' L ?HN) (?tJ A B g a c))
 . exact#[_,rfl,_,rfl,A,B,rfl,hA,hB,lA,lB,λL g a c H1 s1 hL sh=>?OD #[L,g,a,c,rfl,s1,hL,sh]]
 apply wJ λL g a c H1 s1 hL sh=>?_;intro sq;have g0:=sh.pos;have lg:?F7:=?PP lA;ext O7;have la:a.natAbs<L9:=qc2 sh.la lB;have lc:c.natAbs<L9:=qc2 sh.lb lA;have eB:B.fdiv g=B / g:=?uN;have eA:A.fdiv g=?gI:=?uN;have lz':(B / g).natAbs<L9:=qc2 ?kG lB;have lz:(-(B / g)).natAbs<L9:=by rw[qc6];exact lz'
 have lu:(?gI).natAbs<L9:=qc2 ?kG lA;have hp1:=?k3;have hr1:=?U8 ?lF;let#[ci,_,oJ,mci,mX]:=?mI;let#[cj,_,ecj,mcj,hcj]:=?ON ?pS hj;let#[di,_,edi,mdi,hdi]:=?FP;let#[dj,_,edj,mdj,hdj]:=?ON xb.row hj;have mk:∀{u:Int}{k c U:Nat}{f:Lat.Mat},u.natAbs<L9->Lat.Bits n U big f->k<n->c<U->?GO u (f k c):=λh1 h2 h3 h4=>iM h1 (h2 _ _ h3 h4);apply ?DE;apply ?DE;apply#[_,rfl,_,rfl,L,_,_,_,rfl,rfl,hL,rfl,_,_,rfl,rfl,cb _,_,rfl,?_];apply#[_,rfl,_,rfl,L,_,_,_,rfl,rfl,hL,rfl,_,_,rfl,rfl,cb _,?_];apply#[_,rfl,p,C,dx,fs,_,rfl,hp1,?bL,?fT,l1,_,rfl,r,_,_,_,rfl,rfl,.of hr1,?kE,?_];apply Ao (λσ' H'=>?V6 a/\H1=H') ?_ λkey=>?OD #[by rw[←eA,←eB];rfl,rfl];ext bV;apply ?O9 (λσ' H'=>Dx λD1=>Oy (?V6 a) (V8 r b H1 H') (Kp H1 H') (H1 D1=none) (H' b=H1 b) (?V9 r (?F0)) (?V9 D1 (VI W λk=>a*s.1 i k+c*s.1 j k)))
 . apply#[_,rfl,_,rfl,_,rfl,_,rfl,p,C,dx,fs,_,rfl,hp1,?bL,?fT,l1,_,rfl,r,_,_,_,rfl,rfl,.of hr1,Bp ecj,?_];apply#[a,c,ci,cj,W,?gL,?q8,rfl,?f7 mX,?f7 hcj,hW,?R6 la lc,λD1 H2 Fa s2 h2=>?_];have nD:D1≠r:=λz=>by rw[z,hr1]at Fa;cases Fa
   apply#[_,rfl,p,C,dx,fs,_,rfl,(?PZ hp1),?bL,?fT,l1,_,rfl,r,_,_,i,rfl,rfl,?PZ hr1,Jx (by ext sK),?_];exact ?OD #[D1,rfl,(?lG s2).l,?TF s2,Fa,by rw[Ak rb.symm,s2 _ _ (?g5),?g5],Ab,by rw[?mS];exact h2]
 apply jS λD1 H3 tG kp3 n1 b3 r3 d3=>?_;intro sq;have hp3:=tG _ _ pr pb hp1;have kr:?RG as:=?QM na na;have kb:?RG bs:=?QM nb nb;have qr:∀{G:Hp}{k:Nat}{c:Addr},?yE->c∈as->SqL K H c (VI W (s.1 k))->as[k]?=?c c->SqL K G c (VI W (s.1 k)):=λfr hc _ e=>.of (kr fr hc _ (xa.2.2 _ _ e));have rci:as[i]?=?c ci:=by rw[qb4]at oJ;let ?m7:=?fC oJ;cases e2;exact e1
 have rcj:as[j]?=?c cj:=by rw[qb4]at ecj;let ?m7:=?fC ecj;cases e2;exact e1
 have rdi:bs[i]?=?c di:=by rw[qb4]at edi;let ?m7:=?fC edi;cases e2;exact e1
 have rdj:bs[j]?=?c dj:=by rw[qb4]at edj;let ?m7:=?fC edj;cases e2;exact e1
 have D1r:D1≠r:=λz=>by rw[z,hr1]at n1;cases n1
 have D1b:D1≠b:=λz=>by rw[z,?g5]at n1;cases n1
 apply ?O9 (λσ' H'=>Dx λD2=>Oy (?V6 a) (V8 r b H3 H') (?ME) (H3 D2=none) (H' b=H3 b) (?V9 r ((?F0).set j (?eM))) (?V9 D2 (VI W λk=>-(B / g)*s.1 i k+?gI*s.1 j k)))
 . apply#[_,rfl,_,rfl,_,rfl,_,rfl,p,C,dx,fs,_,rfl,hp3,?bL,?fT,l1,_,rfl,r,_,_,_,rfl,rfl,.of r3,Bp (by rw[qk0 hij];exact ecj),?_];apply#[-(B / g),?gI,ci,cj,W,?gL,?q8,rfl,qr tG mci mX rci,qr tG mcj hcj rcj,hW,?R6 lz lu,λD2 H4 Xt s4 h4=>?_];have nD:D2≠r:=λz=>by rw[z,r3]at Xt;cases Xt
   apply#[_,rfl,p,C,dx,fs,_,rfl,(s4 _ _ hp3),?bL,?fT,l1,_,rfl,r,_,_,j,rfl,rfl,s4 _ _ r3,Jx (by rw[qi2,qa2,xa.1];exact hj),?_];apply ?OD #[D2,rfl,(?lG s4).l,?TF s4,Xt,?_,Ab,by rw[?mS];exact h4];have e3:H3 b=?oN:=by rw[b3];exact ?g5
   rw[Ak rb.symm,s4 _ _ e3,e3]
 apply jS λD2 H5 fr5 kp5 n2 b5 r5 d5=>?_;intro sq;have e5:H5 b=?oN:=by rw[b5,b3];exact ?g5
 have Ad3:=tG.trans fr5;have gD:=fr5 _ _ pr pb hp3;have D2r:D2≠r:=λz=>by rw[z,r3]at n2;cases n2
 have D2b:D2≠b:=λz=>by rw[z,b3,?g5]at n2;cases n2
 apply#[_,rfl,p,C,dx,fs,_,rfl,gD,?bL,?g6,l2,_,rfl,b,_,_,_,rfl,rfl,.of e5,Bp edi,?_];apply Ao (λσ' H'=>?ST a/\?rW) ?_ ?EW;ext bV;apply ?O9 (λσ' H'=>Dx λD3=>Oy (?ST a) (V8 r b H5 H') (Kp H5 H') (H5 D3=none) (H' r=H5 r) (?V9 b (?BM)) (?V9 D3 (VI n λk=>?gI*s.2 i k+-?c0*s.2 j k)))
 . apply#[_,rfl,_,rfl,_,rfl,_,rfl,_,rfl,p,C,dx,fs,_,rfl,gD,?bL,?g6,l2,_,rfl,b,_,_,_,rfl,rfl,.of e5,Bp edj,?_];apply#[?gI,-?c0,di,dj,n,s.2 i,s.2 j,rfl,?S0 Ad3,?RZ Ad3,hn,?QX lu (by rw[qc6];exact lz),λD3 H6 dH s6 h6=>?_];have nD:D3≠b:=λz=>by rw[z,e5]at dH;cases dH
   apply#[_,rfl,p,C,dx,fs,_,rfl,(s6 _ _ gD),?bL,?g6,l2,_,rfl,b,_,_,i,rfl,rfl,s6 _ _ e5,Jx (by ext sL),?_];exact ?OD #[D3,rfl,(?lG s6).r,?TF s6,dH,by rw[Ak rb,s6 _ _ r5,r5],Ab,by rw[?mS];exact h6]
 apply jS λD3 H7 fr7 kp7 n3 r7 b7 d7=>?_;intro sq;have Ad2:=Ad3.trans fr7;have hp7:=fr7 _ _ pr pb gD;have D3r:D3≠r:=λz=>by rw[z,r5]at n3;cases n3
 have D3b:D3≠b:=λz=>by rw[z,e5]at n3;cases n3
 apply ?O9 (λσ' H'=>Dx λD4=>Oy (?ST a) (V8 r b H7 H') (Kp H7 H') (H7 D4=none) (H' r=H7 r) (?V9 b ((?BM).set j (?d D4))) (?V9 D4 (VI n λk=>-c*s.2 i k+a*s.2 j k)))
 . apply#[_,rfl,_,rfl,_,rfl,_,rfl,_,rfl,p,C,dx,fs,_,rfl,hp7,?bL,?g6,l2,_,rfl,b,_,_,_,rfl,rfl,.of b7,Bp (by rw[qk0 hij];exact edj),?_];apply#[-c,a,di,dj,n,s.2 i,s.2 j,rfl,?S0 Ad2,?RZ Ad2,hn,?QX (by rw[qc6];exact lc) la,λD4 H8 hD4 s8 h8=>?_];have nD:D4≠b:=λz=>by rw[z,b7]at hD4;cases hD4
   apply#[_,rfl,p,C,dx,fs,_,rfl,(s8 _ _ hp7),?bL,?g6,l2,_,rfl,b,_,_,j,rfl,rfl,s8 _ _ b7,Jx (by rw[qi2,qa2,xb.1];exact hj),?_];apply ?OD #[D4,rfl,(?lG s8).r,?TF s8,hD4,?_,Ab,by rw[?mS];exact h8];have e7:=r7.trans r5;rw[Ak rb,s8 _ _ e7,e7]
 apply jS λD4 H9 fr9 kp9 n4 r9 b9 d9=>?_;intro sq;have NB:=Ad2.trans fr9;have D4r:D4≠r:=λz=>by rw[z,r7,r5]at n4;cases n4
 have D4b:D4≠b:=λz=>by rw[z,b7]at n4;cases n4
 have k19:Kp H1 H9:=((kp3.trans kp5).trans kp7).trans kp9;have u1:?TG D1:=?gH n1
 have BZ:∀{G:Hp}{D:Addr},Kp H G->G D=none->?AP:=λkp e=>by
  cases z:H _ with
  | none=>rfl
  | some o=>exact ?fF e (kp _ (by rw[z];exact λq=>by cases q))
 have k01:Kp H H1:=?gK s1;have u2:?GF:=BZ (?oV kp3) n2;have u3:?TG D3:=BZ ((?oV kp3).trans kp5) n3;have u4:?TG D4:=BZ (((?oV kp3).trans kp5).trans kp7) n4;ext NP
 have hL9:SqT K H9 L ?HN:=by
  rcases hL with h | h
  . exact ?p (by
     have hLr:L≠r:=λz=>by rw[z]at h;rcases h with h|⟨_,h⟩<;>rw[hr1]at h<;>cases h
     have hLb:L≠b:=λz=>by rw[z]at h;rcases h with h|⟨_,h⟩<;>rw[?g5]at h<;>cases h
     rcases h with h|⟨q,h⟩
     . exact ?p (?IU)
     . exact ?A #[q,?IU])
  . exact ?A h
 apply#[_,rfl,k L g a c H9 ((?lG s1).trans NB) ?FZ hL9 sh #[#[dx,fs,NB _ _ pr pb hp1,l1,l2,l3,l4,l5],#[_,xa.two (D1:=D1) (D2:=D2) hi hj hij ?_ (λa ha=>kr NB ha) ?_ ?_ ?_,?cF],#[_,xb.two hi hj hij b9 (λa ha=>kb NB ha) ?_ ?_ ?_,?cF],rb,x.nr,x.nb,λa ha z=>x.nn a ha (BZ ?FZ z)]]
 . rw[r9,r7,r5]
 . show ?UA D1 i;rw[Lat.blend_row_p hij];exact(fr9 _ _ D1r D1b (fr7 _ _ D1r D1b (fr5 _ _ D1r D1b d3)))
 . show ?UA D2 j;rw[Lat.blend_row_q];exact(fr9 _ _ D2r D2b (fr7 _ _ D2r D2b d5))
 . ext NU
 . rcases kN ha with ha | rfl | rfl
   . exact ?y1
   . exact#[D1r,D1b,nN _ u1]
   . exact#[D2r,D2b,nN _ u2]
 . show ?U1 D3 i;rw[Lat.blend_row_p hij];exact fr9 _ _ D3r D3b d7
 . show ?U1 D4 j;rw[Lat.blend_row_q];exact d9
 . ext NU
 . rcases kN ha with ha | rfl | rfl
   . exact ?mZ
   . exact#[D3r,D3b,nN _ u3]
   . exact#[D4r,D4b,nN _ u4]
noncomputable abbrev Jm:Stmt:=Ev ?lA 0
def U4:?q ?dR ?dR (As Jm):=Bg
def Vi[?u](F:Et K ?cL ?EK Jm f fd)[?t](Zz:?UP P):?OF ?dR (eS K Af Ad Ah):=by
 apply ?OR U4;let#[p,dx,r,b,rfl,hp,k]:=h
 apply#[_,(Ag (B8 (UL Zz hr ?f ?rV (Aa ?j (Aa ?l ?aI))))
  (Am (?OQ ?eI))),?_]
 ext G
 apply#[_,rfl,_,rfl,_,rfl,p,dx,Ad,r,b,rfl,?i9,hp,λH1 fs hfs hH1=>?_];have hp1:H1 p=?TY Ad fs:=by rw[hH1];exact Ab
 have s1:?bP p H H1:=by rw[hH1];ext O4
 have hl:fs.length<=2:=by rw[hfs];exact ?EC
 apply#[qb2 _,λD hD=>?_];have hDp:p≠D:=At hp1 hD;apply#[_,rfl,p,Ad,dx,fs,rfl,by rw[Ak hDp];exact hp1,T.cl_Stairs,T.na_Stairs_starts,O9m,?_];apply k D _ _ ?_ (by rw[hfs]) (SameX.upd (s1.trans (SameX.of (Same.new hD)))) (by rw[Ak hDp.symm];exact Ab) Ab;cases z:H D with
 | none=>rfl
 | some o=>rw[s1 _ _ hDp.symm z]at hD;cases hD
noncomputable abbrev Ew:Stmt:=top 76
def Lp:?q ?mD ?mD (As Ew):=Bg
def L4[?u](F:Et K ?nW ?nW Ew f fd)[?t][?NC]:?OF ?mD (EN K):=by
 apply ?OR Lp;let#[a,ns,rfl,hq,hl,ok,k]:=h;apply#[_,(?W6 (Bt (N':=[?aP,"after"]) (cap:=?uV) ?f ?P (?TN (?OC ?j (Mz ?iT ?j (Qn Al) Qo))) (?SO QF QF) ?V (?OB (?SR Fx (Aa ?l ?a4))))),?_];apply#[_,rfl,_,rfl,_,rfl,a,_,rfl,hq,?w6]
 have Ac0:Nd (?kW) (?h6) ?k=?k1:=by
  rw[show ?n7=((1:Nat):Int) from rfl,c8,List.map_drop]
 rw[Ac0];have sC:?QC H ?x8:=?y hC;have hC1:(?x8) C=?SX (?k1):=Ab;generalize ?x8=H0 at sC hC1;apply#[a,C,rfl,#[_,sC.seq hq],(?UW hC1),?W];have hzl:?xS=min (?kW).length (?k1).length:=by rw[List.length_zip,qa2,qa2]
 apply Qv (K:=K) (a:=a) (b:=C) (xs:=?kW) (ys:=?k1) (n:=?xS) hzl (λi zs τ H1=>Bw (?h H0 H1) (?QR H1) (?R4 zs) (?OX [o1,o2]))
  ?lK (?UJ ?kB #[(sC.trans s1).seq hq,?OE s1 hC1]) ?_ ?_
 . rintro i x y zs τ H1 p hx hy Ea hp;revert τ;apply ?nB;intro s1 Fa hz1 o1 o2 Fv;subst hz1;rw[qb4]at hx hy;let#[x1,hx1,rfl]:=?fC hx;let#[y1,hy1,rfl]:=?fC hy;have hz:(?J7)[i]?=?c (x1,y1):=by rw[List.getElem?_zip_eq_some];exact#[hx1,hy1]
   have hil:?qT:=(?g9 hx1).1;have sp:?UN p [?g x1,?g y1]:=?cS;ext hC;apply#[_,rfl,_,rfl,y1,x1,rfl,ok.1 x1 (qb3 hx1),?_];rw[qe1 (ok.2 _ (qb3 hz))];apply#[?tO,?mL,?RB ?k6,Ab,?_,_,_,rfl];ext j5
 . rintro zs τ H1 ⟨s1,Fa,rfl,_⟩;apply#[D,?FQ,rfl,?rF,?_];rw[?PB ?FQ];exact k H1 (sC.trans s1)
noncomputable abbrev R8:Stmt:=top 81
def EX:?q ?dJ ?dJ (As R8):=Bg
def fN[?u](F:Et K ?mB ?mB R8 f fd)[?t][?s6]:?OF ?dJ (AN K):=by
 apply ?OR EX;let ?KC:=h;apply(?PV Eg (Kw (pQ (D8 Dy ?j Al ?w) (Kw (D8 KI ?j Al ?w)))));apply#[_,rfl,?g n,?g n,rfl,rfl,?_];ext m1;apply ?u3;ext hD;ext a2
 . exact k
 . have h2:¬n=0:=?C
   apply ?AS;rw[qe1 (show 1<n by omega)];exact k
noncomputable abbrev F3:Stmt:=top 8
def Pc:?q ?j9 ?j9 (As F3):=Bg
def Pn[?u](F:Et K ?o5 ?o5 F3 f fd)[?t][?N3][?lT]:?OI ?j9 (Fo K):=by
 apply ?OR Pc;let#[a,x,d,l,xs,rfl,hL,hx,k]:=h;let ?M2:=?BX;apply(?W0 (L3 (?SR Ef (?OC ?l ?fA)) (Kw (D8 Dy (?SR Db (Aa (?OK ?j ?l) Ac)) ?o ?w))));apply#[_,rfl,_,rfl,a,us,rfl,?gC,x,d,_,rfl,hx,_,rfl,?_];rw[Zv];ext z8
 . obtain⟨i,rfl⟩:∃i,d=?aL:=by cases d<;>first | exact ?bC | (exfalso;simp[belowD]at e)
   cases (show x=?aL from hx);have e':?FJ:=e;have h0:0<=i/\i<?lJ:=by simpa using e'
   let#[us',v,hq',hv,tv]:=?w0 hL h0.1 h0.2;apply#[_,rfl,_,rfl,a,us',i,v,rfl,rfl,hq',hv,v,_,rfl,?A tv,_,rfl,rfl,?_]
   have e2:Dq xs (?aL) l=?I (?QB Fg=l):=by
    show ?RT _;rw[e'];simp[Fg]
   rw[e2]at k
   have e3:?I (?X (?QB Fg)=?X l)=?I (?QB Fg=l):=by
    by_cases z:?QB Fg=l
    . simp[z]
    . simp[z]
   rw[e3];exact k
 . have e2:Dq xs d l=false:=by
    cases d with
    | int i =>
      have e':¬?FJ:=e;show ?RT false;rw[qq2.mpr e'];rfl
    | _=>rfl
   rw[e2]at k;exact k
noncomputable abbrev Lw:Stmt:=top 31
def Yo:?q ?pR ?pR (As Lw):=Bg
def Y7[?u](F:Et K ?pN ?pN Lw f fd)[?t][?N3]:?OI ?pR (Gk K):=by
 apply ?OR Yo;let#[i,b,rfl,h0,h1,k]:=h;apply#[_,(Am (?UR Ef ?b6)),?_];apply#[_,rfl,_,rfl,?aL,?aL,b,rfl,rfl,_,rfl,?_];rw[show ?xV=true from belowD_of h0 h1];ext cX;exact k
noncomputable abbrev Rz:Stmt:=top 35
def eW:?q ?oR ?oR (As Rz):=Bg
def fK[?u](F:Et K ?rK ?rK Rz f fd)[?t](Gw:Has P w K mg ?e ?nJ ?s0 2 (Ja K)):?OI ?oR (Wf K):=by
 apply ?OR eW;let ?HZ:=h;let#[Wc,gQ]:=T.x_MOST_ROWS;let ?A3:=?jZ
 apply#[_,(Ag (?W1 ?c3 (Oo (?VL (?WR E8) ?j) (Nv (Bo KI ?fA (Iu (v:=?g 40) ?f gQ ?bC) ?w))))
  (?W6 (Bt (N':=?uR) (cap:=?wA) ?f ?P ?jW (?OB (?SP 0 qD)) ?V (?OB (?SR Gw ?b6))))),?_]
 ext G
 apply#[_,rfl,?h7,?eP,dT h w f,rfl,?A (?A (?A (?A (?cD)))),hv,_,rfl,?_];apply Oz (by simp[MQ,dT]) ?_;apply#[_,rfl,a,_,rfl,?gC,_,_,rfl,rfl,_,rfl,?_];apply Oz (by simp;omega) ?_;ext s9
 let Bp5:?U:=?UV (?PJ [o,iS w])
 apply Cr (K:=K) (a:=a) (xs:=us) Bp5
  ?cN (?QL _) ?_ ?_
 . ext zF;ext b7;ext zA;let ?FN:=?LA;apply#[_,rfl,_,rfl,b,w,f i,rfl,?f7 hb,hw,?wC];apply#[?JZ,?xM,?RB ?eE,Ab,?_,_,rfl];ext j5
 . ext z6;apply#[D,?sV,rfl,?rF,?_];rw[?PB ?sV];exact ?hW
noncomputable abbrev U6:Stmt:=top 37
def HX:?q ?mK ?mK (As U6):=Bg
def iG[?u](F:Et K ?r6 ?r6 U6 f fd)[?t](P4:Has P w K mg ?e ?oK ?uM 2 (Q9 K)):?OI ?mK (Rq K):=by
 apply ?OR HX;let#[u,v,h,d,w,f,g,rfl,hu,hv,hh,hd,hw,hm,k]:=h;let ?A3:=Hn hu;apply(?W0 (Bt (N':=[?gM,?dK,?b3]) (cap:=[none,?h6,?p8]) ?f ?P ?jW (?OB (?SP 0 Ar4)) ?V (?OB (?SR P4 (Aa ?j (Aa ?l ?aI))))));ext s9
 let Bp4:?U:=λi ys τ H1=>Dx λas=>Bw ?q1 ?oW (?dD H H1 D as w (λi j=>Aj (λk=>f i k*g k j) d)) (?PJ [o,?dQ,iS w])
 apply Cr (K:=K) (a:=a) (xs:=us) Bp4
  ?l1 (?R1 #[as,_,_,R,_] ?e7) ?_ ?_
 . rintro i x ys τ H1 hx ⟨as,hal,rfl,R,o,rfl⟩;let ?FN:=?LA;apply#[_,rfl,_,rfl,_,rfl,b,v,d,w,f i,g,rfl,?e7 hb,?I5,hd,hw,λk j hk hj=>hm i k j hi hk hj,?wP];ext yJ
 . ext yM
noncomputable abbrev Sb:Stmt:=top 51
def EY:?q ?r9 ?r9 (As Sb):=Bg
def FO[?u](F:Et K ?oJ ?oJ Sb f fd)[?t][?lQ]:?OI ?r9 (AQ K):=by
 apply ?OR EY;let#[a,b,xs,k,ns,rfl,hL,K6,hb,hnl,kq]:=h;apply(?W0 (Gz (g6 ?f) ?f ?vF Oi (Aa (Bt (N':=[?b0,?aP]) (cap:=?uV) ?f ?P (Vd (K:=K) ?f ?lH (Aa (?SR Bl ?b6) ?aI)) (?SO qH qH) (?OB (Ql (?WL Jb ?l))) (?OB (Fq ?b6))) Ac)));apply#[_,rfl,_,rfl,a,k,xs,rfl,hL,K6,λP H1 hP s1 hP1=>?_];have pl:?LM:=?tS;have hnd:=Id xs k;generalize KR:?kY=sp at hP1 hnl pl hnd kq;have hb1:=?f7 hb;have hzn:=oM hnl hnd;have hzl:(?q3).length=sp.length:=by rw[List.length_zip];omega
 apply#[_,rfl,P,b,rfl,(?UW hP1),#[_,hb1],?W]
 apply GN (K:=K) (a:=P) (b:=b) (xs:=sp.map ?X) (ys:=?kW) (n:=sp.length) (by rw[qa2,qa2];omega) (λi zs τ G=>Bw ?lN (?QR G) ((∃ts:?iX,zs=ts.map ?aB/\ts.length=?t4/\∀(j:Nat) t,ts[j]?=?c t->∃p:Int × Int,(Ss ((?q3).take i))[j]?=?c p/\G t=?c (?x [?g p.1,?g p.2])/\t≠D)) (?OX [o1,o2]))
  #[?bK,Ab,#[[],rfl,rfl,λj t z=>?wY],?k,?k,rfl] (?UI #[?OE g hP1,g.seq hb1]) ?_ ?_
 . rintro i x y zs τ G p hx hy ⟨g,Ct,⟨ts,rfl,kR,hts⟩,o1,o2,rfl⟩ hp;have hi:i<sp.length:=?vS
   have hz:=yK hnl hi
   have hxv:x=?g (?AO):=by
    ext yP
   have hyv:y=?g (?I0):=by
    rw[qb4,qa1 (show ?qT by omega)]at hy;rw[qa0,qa1 (show ?qT by omega)];simpa using hy.symm
   subst hxv hyv;have ct:=nQ hz;generalize ?AO=sv at hz ct;generalize ?I0=nv at hz ct;have gp:?QC G ?vW:=?cS;have hp1:(?vW) p=?c (?QF nv):=Ab;generalize ?vW=G1 at gp hp1;have ctl:?t4<=i:=qa5 (VA _) (by rw[qe2];omega);ext NL;ext hD;ext a2
   . have e:¬nv=0:=?C
     rw[?aK e]at ct;apply#[_,rfl,_,rfl,?a9,?pE];have gt:=gp.trans (?y (o:=?QF nv) ht);have ntD:t≠D:=(At (?AV) ht).symm;have hDt:=?Q5 gt;have htt:(?KU) t=?c (?QF nv):=Ab;generalize ?KU=G2 at gt hDt htt;apply#[hDt,?eD,?Q6 gt hD,Ab,#[ts++[t],?aD,by rw[ct];simp[kR],λj t' e2=>?_],_,_,rfl];rw[ct];rw[List.getElem?_append]at e2;split at e2
     . rename_i hj
       let#[p',HB,h2',h3']:=hts j t' e2;exact#[p',by rw[qb8 ?jH];exact HB,by rw[Ak h3'];exact gt _ _ h2',h3']
     . rename_i hj
       have hj0:j-ts.length=0:=by
        cases hz:j-ts.length with
        | zero=>rfl
        | succ m=>rw[hz]at e2;simp at e2
       rw[hj0]at e2;have et:t=t':=by simpa using e2
       subst et;apply#[(sv,nv),?_,?_,ntD]
       . rw[qb5 ?jH,show j-?t4=0 by omega];rfl
       . rw[Ak ntD];exact htt
   . have e:nv=0:=?C
     rw[?bG e]at ct;rw[ct];exact#[?b4 gp,?AV,#[ts,rfl,kR,λj t z=>let #[p',a1,a2,a3]:=hts j t z;#[p',a1,gp _ _ a2,a3]],_,_,rfl]
 . rintro zs τ G ⟨g,Ct,⟨ts,rfl,kR,hts⟩,_⟩;rw[←hzl,qe7]at kR hts;apply#[D,ts,cK (Ss (?q3)),rfl,Ct,(by rw[Ga];exact kR),λi t e2=>?_,?h5]
   . let#[p,HB,h2',_]:=hts i t e2;apply#[(?p p.1,?g p.2),?_,h2'];unfold cK;rw[qb4,HB];rfl
   . apply kq E _ ((?f5).free hE) (?l9 (?fZ)) ?_;rw[Ab,N6 _ [] (by rw[qn4];exact Ty.mpr (Ar7 hzn)),qn4]
noncomputable abbrev Fw:Stmt:=Ev ?JT 1
def m9:?q ?eK ?eK (As Fw):=Bg
def Ra[?u](F:Et K ?c6 ?v4 Fw f fd)[?t](T9:Has P w K mg ?e ?o3 ?sY 2 (Yi K))(Xs:Has P w K mg ?e ?G9 [?c6] 1 (aR K)):Bz P w K mg ?e Eo 3 f fd ?eK ?kL:=by
 apply ?OR m9;let#[p,u,C,r,b,sv,n,W,s,N,t,rfl,hC,x,hu,m1,m2,hn,hW,k]:=h;ext MS
 have hc:?DA:=by
  rcases hC with rfl | rfl
  . ext NK
  . ext NH
 apply#[_,(Ag (?OQ (?SR T9 (Aa ?Y ?a8)))
  (Am (Eu (K:=K) ?j (?SR T9 (?OC ?Y (?WQ Xs ?a8)))))),?_]
 ext G
 apply#[_,rfl,p,C,dx,fs,_,rfl,hp,?bL,?fT,l1,_,rfl,r,u,as,n,W,s.1,t,rfl,xa,hu,m1,hn,hW,λD1 xV H1 Fa s1 x1 n1=>?_];have hp1:=?k3;apply#[_,rfl,p,C,dx,fs,rfl,hp1,?bL,?fT,O9m,?_];have sx1:?bP p H ?jE:=?UZ s1;have An6:?bP p H1 ?jE:=?fS
 have hu1:Rep K ?jE u (TH t):=by
  apply Rep.t #[λb xs e=>?_,λb o u e=>?_] (by cases t<;>rfl) hu
  . ext NZ
  . ext NZ
 have hl1:?M4=fs.length:=Mw l1;have hp2:?jE p=?TY C (?QQ fs):=Ab;have x2:=x1.x hp1 An6;have tN:=xb.x hp sx1
 have vJ:∀a,?SB ?jE->?hQ:=λa e=>by
  by_cases hap:a=p
  . rw[hap,Ab]at e;cases e
  . rw[Ak hap]at e;exact ?gH e
 generalize hH2:?HF=H2 at sx1 An6 hu1 hp2 x2 tN vJ;apply#[_,rfl,p,C,dx,_,_,rfl,hp2,?bL,?g6,(by ext sC;exact l2),_,rfl,u,t,rfl,hu1,λu2 H3 s3 hu3=>?_];apply#[b,u2,bs,n,n,s.2,tnA t,rfl,?uX s3,hu3,m2,hn,hn,λD2 bs2 H4 Xt s4 x4 n4=>?_];have YX:=?fX s4;have Q0:=YX _ _ hp2;apply#[_,rfl,p,C,dx,_,rfl,Q0,?bL,?g6,O9m,?_];have hl2:(?J ?gB (?aB D2) (?IS)).length=?M4:=Mw (x:=?mG) (by ext sC;exact l2);have YV:?bP p H4 (upd H4 p (?N C dx (?J ?gB (?eM) (?QQ fs)))):=?fS;have f2:?GF:=vJ _ (?wI Xt);have dne:D1≠D2:=λz=>?LZ ?BJ;ext NP;apply k D1 D2 _ (?d6 (sx1.trans (?f6 YX))) Fa f2 #[#[dx,_,Ab,?_,?_,?_,?g7,O9m],#[xV,(x2.same YX).x Q0 YV,?cF],#[bs2,x4.x Q0 YV,?cF],dne,nN _ Fa,nN _ f2,?nZ]
 . rw[Ar,?rG,Ar,?e8]
 . rw[Ar,?e8]
 . ext MZ;exact l3
 . rw[Ar,?f8,Ar,?f8];exact l4 m hm
 . have h1:=(x2.same s3).there.2 a ha;let ?G2:=n1 a ha;apply#[h3,λz=>h1 ?BJ,?_];rcases h2 with h2 | h2
   . exact(na a h2).2.2
   . exact nN a h2
 . let ?G2:=n4 a ha;apply#[?y0,h3,?_]
   . rcases h2 with h2 | h2
     . exact ?vK a h2 (z▸Fa)
     . exact ?LZ (z▸h2)
   . rcases h2 with h2 | h2
     . exact(nb a h2).2.2
     . exact nN a (vJ _ (?wI h2))
 . by_cases hap:a=p
   . rw[hap,Ab]at z;cases z
   . rw[Ak hap]at z;exact x.nn a ha (vJ _ (YX.free z))
noncomputable abbrev Lx:Stmt:=Ev ?kM 0
def Yp:?q ?m8 ?m8 (As Lx):=Bg
def Y8[?u](F:Et K ?cL ?IQ Lx f fd)[?t][?N4][?O8]:Bz P w K mg ?e Eo 3 f fd ?m8 (?OH eT):=by
 apply ?OR Yp;let#[H0,p,dx,v,n,w,M,rfl,s0,fp,hp,hv,hn,hw,k]:=h;let(?RU hq0 _):=?jZ
 apply#[_,(Ag (?OQ ?l)
  (Ag (?OQ ?o)
  (Ag (?WH (?W2 ?jU) (?SR Rg (?W2 ?jU)))
  (Ag (?WH ?aI (?SR Rg ?aI))
  (Am (?OQ ?eI)))))),?_]
 ext G
 have mkL:∀{G1 G2 G3:Hp}{D1 D2 L dJ:Addr}{xV jL:?iX}{m:Nat}{fs:?yA}{G4:Hp}{N:?GC},xV.length=m->?dD G1 G2 D1 xV m (λi j=>?jT)->jL.length=m->?dD G2 G3 D2 jL m (λi j=>?jT)->G3 L=none->?h G3 (?QT L)->fs=?J ?gB (?eM) (?QQ [])->G4=upd (upd (?QT L) L (?N Af dJ (?QQ []))) L (?N Af dJ fs)->(∀a,N a->G1 a≠none) →
  ?EY/\LX G4 Af L D1 D2 ?k m m ?eB N:=by
  intro G1 G2 G3 D1 D2 L dJ xV jL m fs G4 N hl1 R1 hl2 R2 nL sN hfs hG4 hN;have hL4:G4 L=?c (?N Af dJ fs):=by rw[hG4];exact Ab
  have st:?EY:=λa o e=>by
   rw[hG4,Ak (At e nL),Ak (At e nL)];exact sN _ _ e
  clear hG4
  have x1:TA G4 D1 xV m m ?hB:=((?AH).same (?nF st)).congr λi c _ _=>by
   by_cases z:i=c
   . subst z;simp[Lat.one]
   . ext O0
  have x2:TA G4 D2 jL m m ?hB:=((TA.of R2 hl2).same st).congr λi c _ _=>by
   by_cases z:i=c
   . subst z;simp[Lat.one]
   . ext O0
  have t1:=(?AH).there;have f2:∀a,?SB G2->?IK:=?RX ?xW;have nN:∀a,?IK->?q9:=?SI hN;apply#[st,#[dJ,fs,hL4,?xI,?xI,?xI,?g7,?_],#[xV,x1,?cF],#[jL,x2,?cF],λz=>t1.1 ?IH,nN _ ?qY,nN _ (f2 _ ?pK),λa ha z=>hN a ha (f2 _ (?p0 (st.free z)))]
  . ext MN
  . ext N0
  . let ?xK:=?wH;let ?sP:=R1.row i _ ?p5;exact#[z2,λz=>t1.2 _ ha ?IH,nN _ z1]
  . let ?xK:=?wH;let ?sP:=R2.row i _ ?p5;exact#[λz=>t1.1 ?IT,z2,nN _ (f2 _ z1)]
 apply#[_,rfl,_,rfl,p,Ah,dx,_,rfl,hp,?E,?fE,?aD,?_];apply Hv (λσ' H'=>?r4/\upd H p (?QH (?hV) [])=H') ?_ ?r3;rintro _ _ ⟨rfl,rfl⟩;apply ?O9 (λσ' H'=>?r4/\∃fs,fs=?J ?b3 ?KB (?J ?a5 (?hV) [])/\?y3/\?F8)
 . apply#[_,rfl,_,rfl,p,Ah,dx,_,rfl,Ab,?E,?oA,by simp[putF],?_];exact ?OD #[rfl,_,rfl,Ab,?d6 ?k0]
 ext zD;let#[fs2,hf2,hp2,sx2]:=EE;have l2:fs2.length<=2:=by rw[hf2];exact ?EC
 have tD:?h H0 H2:=?LV s0 fp;apply ?O9 (λσ' H'=>?r4/\∃(L O1 O2:Addr) (fs:?yA),fs=?J ?eO (?d L) fs2/\?y3/\?bP p H2 H'/\Kp H2 H'/\p≠L/\H2 L=none/\H2 O1=none/\H2 O2=none/\?TC H' (?qC))
 . apply#[_,rfl,ta,us,rfl,?p (tD.seq hq0),n,(by rw[Zv]<;>rfl),O9m,λO1 os1 G1 hl1 R1=>?_];apply#[_,rfl,ta,us,rfl,?p ((?mJ R1.same).seq hq0),n,(by rw[Zv]<;>rfl),O9m,λO2 os2 G2 hl2 R2=>?_];have s2:=R1.same.trans ?gD;intro L dl nL ndl Bb4;have sN:?QK L L:=?ED nL;apply#[L,dl,Af,?d O1,?d O2,rfl,?cD,Ab,?GD];let ?E5:=?Q0 nL;have Q0:=st _ _ (?PZ hp2);have uR:p≠L:=At (?PZ hp2) nL;apply(?PY _ ?g0);exact ?OD #[rfl,L,O1,O2,_,rfl,Ab,?UZ (?bD st),?TF (?bD st),uR,s2.free nL,?qY,?xW ?pK,lx.x Q0 uR ?k0 ?c1]
 apply Ha λH3 EE=>?_;intro sq;let#[L,O1,O2,xP,hf3,hp3,sx3,kp3,uR,nL,n1,n2,lx3]:=EE;have l3:xP.length<=3:=by rw[hf3];exact qa5 ?h1 (qj0 l2)
 have s03:?h H0 H3:=sx3.same tD fp;apply ?O9 (λσ' H'=>?r4/\∃(R O3 O4:Addr) (fs:?yA),fs=?J ?hN (?d R) xP/\?y3/\?EM/\?ME/\p≠R/\H3 R=none/\H3 O3=none/\H3 O4=none/\?TC H' (λa=>?ES)/\LX H' Af R O3 O4 ?k w w ?eB (?qC))
 . apply#[_,rfl,w,rfl,O9m,λO1' os1 G1 hl1 R1=>?_];apply#[_,rfl,w,rfl,O9m,λO2' os2 G2 hl2 R2=>?_];have s2:=R1.same.trans ?gD;intro R dl nR ndl Bb4;have sN:?QK R R:=?ED nR;apply#[R,dl,Af,?d O1',?d O2',rfl,?cD,Ab,?GD];let ?E5:=?Q0 nR;have Q0:=st _ _ (?PZ hp3);have WV:p≠R:=At (?PZ hp3) nR;have n4:H3 O2'=none:=?xW ?pK;apply(?PY _ ?hJ)
   have y1:?TC G4 (λa=>a=O1'\/a=O2'):=lx3.more (?bD st) (λa ha=>?A (by rcases ha with rfl | rfl;exact R1.free;exact n4)) λa ha=>by
    rcases ha with rfl | rfl
    . let ?iN:=lx.rw;exact ?EH
    . let ?iN:=lx.bk;exact ?EH
   exact ?OD #[rfl,R,O1',O2',_,rfl,Ab,?UZ (?bD st),?TF (?bD st),WV,s2.free nR,?qY,n4,y1.x Q0 uR ?k0 ?c1,lx.x Q0 WV ?k0 ?c1]
 apply Ha λH4 EE=>?_;intro sq;let#[R,O3,O4,fs4,hf4,Q0,WO,kp4,WV,nR,n3,n4,lx4,ly4]:=EE;have l4:fs4.length<=4:=by rw[hf4];exact qa5 ?h1 (qj0 l3)
 have wR:?BL:=WO.same s03 fp;apply#[?b5,λnm hnm=>?_];have sn:?QC H4 ?L9:=?y hnm;have Ab5:upd H4 nm ?bQ nm=?h2:=Ab;have gD:=sn _ _ Q0;generalize ?L9=H5 at sn Ab5 gD;apply#[_,rfl,p,Ah,dx,_,rfl,gD,?E,?eR,O9m,?_]
 have ex:∀a,?M6->H5 a≠none:=λa ha=>by
  ext zB
  . rw[Ab5];ext lZ
  . let ?iN:=ly4.rw;exact ?LP
  . let ?iN:=ly4.bk;exact ?LP
 have z1:?TC H5 (λa=>?M6):=lx4.more sn (λa ha=>ha.elim (λe=>?A (e▸hnm)) ?p) ex;have z2:LX H5 Af R O3 O4 ?k w w ?eB ?p7:=ly4.more sn (λa ha=>?A (ha▸hnm)) λa ha=>ex a (?p ha);have EJ:?bP p H5 (?QS p):=?fS;have s06:?h H0 (?QS p):=EJ.same (?EU sn) fp;have g2:∀a,?A0->?pO:=?RX tD.free;have g3:∀a,?GN->?pO:=?H3;have npn:p≠nm:=At Q0 hnm;have LR:L≠R:=λz=>by let ?B3:=lx3.ob;rw[z,nR]at q;cases q
 apply k L R nm _ #[#[?hV,dx,_,Ab,?_,?_,?_,?_,?_,?g7,?_,λM' e=>by cases e;exact ?H (λa o e=>by rw[Zy (At e (?K4))];exact s06 _ _ e) hv],#[O1,O2,O3,O4,z1.x gD uR EJ ?c1,z2.x gD WV EJ ?c1,g2 _ n1,g2 _ n2,g3 _ n3,g3 _ n4],by rw[Ak ?HS];exact Ab5,s06,#[fp,g2 _ nL,g3 _ nR,?K4],?LR,#[hn,hw]]
 . rw[hf4,hf3,hf2];ext aG
 . rw[hf4,hf3,hf2];ext aG
 . rw[hf4,hf3];ext aG
 . rw[hf4];ext aG
 . ext aG
 . rw[hf4,hf3,hf2]
   iterate 5 ext NB
   rfl
 . exact qa5 ?h1 O9m
noncomputable abbrev Rw:Stmt:=top 71
def Ej:?q [?R,?vG,?cK,"parts","order","loop","gauge",?DW,?b0,?aP] ?xF (As Rw):=Bg
def FI[?u](F:Et K ?p1 ?p1 Rw f fd)[?t][?yX][?s5]:?OI ?xF (We K):=by
 apply ?OR Ej;let#[a,b,xs,us,ls,rfl,hL,K6,hb,hB,hok,kq]:=h;let#[_,xu,z,hq,r]:=?jN
 apply#[_,(Ag (cI (N':=[?i0]) (cap:=?d5) (i:=2) ?eZ ?f ?pX ?f ?P ?jW (?OB (?SP 0 zP)) ?V (λ_ _ _ _=>Fr))
  (Ag (C4 qd1 rfl (?ON Cg ?l) (?SP 3 ?eZ) (Am (C4 qd1 rfl (?ON Cg ?z) (Co (K:=K) (n:=4) ?f (Bf (?SP 4 ?eZ) (Bf (?SP 5 ?eZ) (Bf (?SP 6 ?eZ) (Bf (?SP 7 ?eZ) Cn))))) (Am (?VO ?S (CI (C4 qd1 rfl (Ku ?e6) (?OA (?SP 8 ?eZ) (?SP 9 ?eZ)) (Am (Ks (?SR P1 (?OC (Ay ?a0 ?o ?eH ?F) (?WQ Ih (?WI ?eW ?bM)))) (Kv ?o ?eH Fp))))))))))
  ?lB)),?_]
 ext G
 cases z;have xul:xu.length=xs.length:=?mY
 apply ?O9 (λσ' H'=>F1 λ ?jY ?hL=>Er (σ'=[?n,?e2,?Z,none,none,none,none,none,none,none]) ?aA ?rP ?BC (En H H' ws (?b1 ?dF [])))
 . ext s9
   let Bp3:?U:=λi ws τ G=>Bw ?dM (G D=?g4) (En H G ws (?b1 i [])) ?fI
   apply Cr (K:=K) (a:=a) (xs:=xu) Bp3
    (?R7 #[rfl,λi v e=>?wS]) (λi ws τ G _ hz=>by ext bW;exact g.seq hq) ?_ ?_
   . rintro i x ws τ G hx Ea;ext b7;intro g Ct dd o Fv;have hi:i<xu.length:=?kD;have wl:ws.length=i:=by have:=dd.1;rwa [qc5]at this
     apply ?h5;have g1:?QC G ?JH:=?fZ;apply#[?BR,?bJ,?Q6 g1 hD,Ab,?_,_,rfl];rw[qi5];apply En.keep (H:=?JH) ((?nA g1).snoc (?uL hE) Ab) λc kvs _ e=>?_;ext j7
     . exact e
     . rw[z,?BR]at e;cases e
   . rintro ws τ G ⟨g,Ct,dd,_⟩;rw[xul]at dd;exact ?OD #[D,ws,rfl,g,hD,Ct,dd]
 apply OP λD ws H1 s1 nD hD dd=>?_;intro sq;apply ?O9 (λσ' H'=>wG λ ?hL ?BQ=>Bw (σ'=?HG) ?aA ?BC (En H H' ws (N8 ?dF ls)))
 . apply(?VS b #[_,.of (?n3)])
   let Bp2:?aN:=λi σ G=>wG λ ?hL ?BQ=>Er (σ=?HG) ?dM (G D=?g4) (En H G ws (?qW)) (j3 ?dF (?qW))
   apply ?oH (K:=K) (a:=b) (xs:=us) Bp2
    #[ws,_,_,_,_,_,_,_,rfl,s1,hD,dd,j3.first _] (λi σ G _ hz=>by let#[_,_,_,_,_,_,_,_,_,g,_]:=hz;exact ?OE g hb) ?_ ?_
   . rintro i v σ G hv Ea
     ext aH
     revert σ;ext ND;have hi:=?fV;have h0:=hB.1;ext NI
     let ?CR:=?ER;have pok:=hok ps (qb3 hps);have pl:=rP.len
     have Z9:N8 ?dF (ls.take ?aT)=Wl (?qW) ps:=by
      unfold N8;rw[qf8,hps,qm7];rfl
     generalize ?qW=lf at dd CV Z9;apply(?VS pa #[_,?M7])
     let Bp1:?aN:=λj σ G=>WG λ ?hL (o2 o3 o4 o5 o6 o7:?e1)=>Er (σ=[?n,?e2,?Z,rS pa,o2,o3,o4,o5,o6,o7]) ?dM (G D=?g4) (En H G ws (?qF)) (j3 ?dF (?qF))
     apply ?oH (K:=K) (a:=pa) (xs:=pu) Bp1
      ?KV (?RW #[_,_,_,_,_,_,_,_,g,_] ?M7) ?_ ?_
     . rintro j v σ G hv Ea
       ext aH
       revert σ;ext NJ;let ?LK:=rP.get hv;let#[t,c1,c2,c3,rfl,et,e1,e2,e3,zM]:=?v2 g;have pk:=pok p ?nV
       have ejk:Wl lf (?d1 (j+1))=KO (?qF) p:=by
        unfold Wl;rw[qf8,hp,qm7];rfl
       generalize ?qF=lg at dd CV ejk
       have rL:∃kvs,H c2=?c (.dK kvs):=by
        let#[t',_,c2',_,q1,q2,_,q4,_]:=pv;cases q1;have:=g _ _ q2;rw[et]at this;ext sE;ext sE;injection this with _ this;injection this with _ this;ext sE;ext sE;exact#[_,by rw[this];exact q4]
       apply#[t,_,rfl,?k9,rfl,_,_,rfl,_,_,rfl,_,_,rfl,_,_,rfl,rfl,?_];ext hD;ext a2
       . have h1:?pA:=?C
         have eP:KO lg p=p.2.2.1.foldl (lift1 ?eL) lg:=?bG h1;rw[eP]at ejk;have nDc:c2≠D:=λz=>by rw[z,Ct]at e2;cases e2
         apply ?A #[c2,?oF,e2,?kJ];apply(?RV c2 ?oF)
         let Bp0:?aN:=λm σ G2=>Ut λ ?hL (o6 o7:?e1)=>G9 (σ=[?n,?e2,?Z,rS pa,?c (?g p.1),rS c1,rS c2,rS c3,o6,o7]) (G2 c2=?c (?PD ?oF)) (G2 D=?g4) (En H G2 ws (?pL)) (j3 ?dF (?pL)) ((∀c q,c≠c2->?hH->G c=?dT->G2 c=?dT))
         apply Qs (d:=c2) (o:=o) (kvs:=?oF) Bp0
          #[ws,_,_,rfl,Ab,by rw[Ak nDc.symm];exact Ct,?_,CV,λc q n1 _ e=>by rw[?lP];exact e] (λi σ G _ hz=>?Q9 #[_,_,_,_,e,_]) ?_ ?_
         . apply ?HJ;ext j7
           . exact e
           . let#[_,q]:=rL;rw[z,q]at e0;cases e0
         . rintro m kk x σ G2 pp hx Ea hpp
           ext aH
           ext NE;ext lW;let#[x0,x1]:=pk.gk q ?mF
           have emk:?SG (m+1)=lift1 ?eL (?pL) q:=by
            rw[qf8,hq,qm7];rfl
           generalize ?pL=lh at dd CV emk;have wl:ws.length=xs.length:=?K1 CV.1;have lX:?h G2 (upd G2 pp ?mW):=?y hpp;ext NM;obtain⟨v,hv⟩:∃v,ws[?dO]?=?dQ:=?lI
           let ?FW:=?JP
           have hat:dX ws q.1=?QG c:=by
            have:=Bp hv
            ext yT
           have nc3:c3≠D:=λz=>by rw[z,Ct]at e3;cases e3
           have e33:=lX _ _ (hk _ _ zM.symm nc3 e3);have lc:=CV.at ?dO;apply#[_,rfl,_,rfl,D,ws,_,_,rfl,rfl,?OE lX GD,hat,_,rfl,_,rfl,q.2,c3,?eL,rfl,e33,?QY pk.fl.len,pk.mul q ?mF,?BY];apply#[c,T,_,_,rfl,?QZ s4 (lX _ _ hc),hT,?QY lc.len,qa5 (pk.fl.times q.2).len ?M,λE G5 nE s5 hE=>?_];have WQ:=?QN ?iZ s5;apply#[_,rfl,_,rfl,D,ws,_,_,rfl,rfl,?zN,by rw[wl];have:=Jx (l:=xs.length) (i:=?dO) O9m;ext yT,?_];apply#[_,_,_,rfl,?_,Ab,emk▸ ?_,emk▸CV.lift1 pk.fl q,λd r n1 n2 e=>?_]
           . rw[Ak nDc];exact WQ _ _ hc2
           . apply En.keep (H:=G5) ((?nA WQ).set ?_ hE ?dO) λd kvs _ e=>?_
             . cases e:H E with
               | none=>rfl
               | some r =>
                 have:=(?iZ) _ _ (hk E r (At ((?iZ) _ _ hc2) nE).symm (At ((?iZ) _ _ GD) nE).symm (g _ _ e));rw[nE]at this;cases this
             . ext j7
               . exact e
               . rw[z,?zN]at e;cases e
           . rw[Ak n2];exact WQ _ _ (hk d r n1 n2 e)
         . rintro σ G2 Ea;ext NE;rw[Ga,qe7,←ejk]at dd CV;apply#[hc2,ws,_,_,_,_,_,_,rfl,λc r e=>?_,by rw[Ak nDc.symm];exact GD,?HJ,CV]
           . by_cases z:c=c2
             . subst z;have:=g _ _ e;rw[e2]at this;cases this;exact Ab
             . rw[?i4];exact hk c r z (At e nD) (g _ _ e)
           . ext j7
             . exact e
             . rw[z,hc2]at e;cases e
       . have h1:¬?pA:=?C
         have eP:KO lg p=lg:=?aK h1;rw[←ejk.trans eP]at dd CV;exact ?KV
     . ext bN;ext NJ;rw[pl,qe7,←Z9]at dd CV;exact#[ws,_,_,_,_,_,_,_,rfl,g,Ct,dd,CV]
   . ext bN;ext ND;rw[hB.1,qe7]at dd;exact ?OD #[ws,_,_,_,_,_,_,_,rfl,g,Ct,dd]
 apply Ak5 λws o1 o2 o3 o4 o5 o6 o7 H2 s2 Xt dd=>?_;intro sq;exact#[_,rfl,kq D ws H2 nD s2 Xt dd]
noncomputable abbrev U8:Stmt:=top 72
def Kl:?q [?cK,?dE,?dW,?b0,?aP] ?u9 (As U8):=Bg
def iH[?u](F:Et K ?mV ?mV U8 f fd)[?t][?yX][?s5]:?OI ?u9 (eN K):=by
 apply ?OR Kl;let#[a,b,O,xs,k,wu,lf,c,rfl,ha,dd,sO,nb,hb,hc,hll,K6,hl,kq]:=h;have hwl:?JK:=dd.1
 apply#[_,(Ag (?P1 ?qE Fr)
  (Ag (CI (?WP (?OA (?SP 3 ?qE) (?SP 4 ?qE)) (Am (Av (i:=2) ?qE (?SR P1 (?OC ?o (An Ih hr (?WI ?S ?iJ))))))))
  ?lB)),?_]
 ext G
 apply ?O9 (λσ' H'=>Dx λ ?jY=>Bw (σ'=[?n,?e2,?Z,none,none]) ?rP ?aA (?eS=?SV (?VY 0)))
 . exact λD hD=>?OD #[D,rfl,hD,?bK,Ab]
 apply Mm λD0 H1 nD s1 Fa=>?_;intro sq;have HA:D0≠b:=λz=>by rw[z,hb]at nD;cases nD
 apply ?O9 (λσ' H'=>Ut λ ?u0 ?BB=>Bw (σ'=?HL) (?TG E) ?aA (?VF E (M4 lf c)))
 . apply ?A #[b,cK c,?n3,?kJ];apply#[_,rfl,b,o,cK c,rfl,Ab,?_]
   let Bo9:?aN:=λi σ G=>Ut λ ?u0 ?BB=>G9 (σ=?HL) (E≠b) (?TG E) (G b=?c (.frz o (?OG c))) (G E=?T0 (?VY i)) ((∀d q,d≠b->H d=?dT->G d=?dT))
   apply Qs (d:=b) (o:=o) (kvs:=cK c) Bo9
    #[D0,?k,?k,rfl,HA,nD,Ab,?AG,λd q n e=>by rw[Ak n];exact ?EL] (λi σ G _ hz=>?Q9 #[_,_,_,_,_,_,e,_]) ?_ ?_
   . rintro i kk x σ G pp hx Ea hpp
     ext aH
     revert σ;ext O2;ext lW;have hqm:=qb3 hq;let#[x0,x1,_]:=Di (hc.key q hqm);let#[lk,lm]:=hl q hqm;have lX:?QV pp ?mW:=?y hpp;ext NM;obtain⟨v,hv⟩:∃v,wu[?dO]?=?dQ:=?lI
     let ?JU:=?JP
     have hat:dX wu q.1=?QG c1:=by
      have:=Bp hv
      ext yT
     have ne1:c1≠b:=At hc1 nb;have nea:a≠b:=At ha nb;have Bh2:=lX _ _ (hk _ _ ne1 (sO _ _ hc1));have haG:=lX _ _ (hk _ _ nea (sO _ _ ha));have hch:?RY (k+1) (?VY i):=Zn (λp hp=>(hl p (List.mem_of_mem_take hp)).1) (ChL.nil ..);apply#[_,rfl,_,rfl,_,rfl,_,rfl,a,wu,_,_,rfl,rfl,.of haG,hat,q.2,c1,?mN ?dO [],rfl,Bh2,?QY lk.ok.len,lm,?BY];apply#[E,T,_,_,rfl,?QZ s4 (lX _ _ MY),hT,?wT,qa5 (lk.ok.times q.2).len ?M,λE2 G5 nE2 s5 hE2=>?_];have WQ:=?QN ?iZ s5;have pJ:=?iZ;have neb:E2≠b:=λz=>by rw[z,pJ _ _ MX]at nE2;cases nE2
     apply#[E2,_,_,rfl,neb,?_,WQ _ _ MX,?_,λd r n e=>WQ _ _ (hk d r n e)]
     . cases e:H E2 with
       | none=>rfl
       | some r=>rw[pJ _ _ (hk _ _ neb e)]at nE2;cases nE2
     . rw[hE2,iR hq]
   . ext bN;ext O2;rw[Ga,qe7]at MY;apply#[MX,?OD #[E,o3,o4,rfl,hE0,λd q e=>?_,by rw[Ak nE];exact MY]];by_cases z:d=b
     . ext z5
     . rw[?i4];exact hk d q z e
 apply oO λE o3 o4 H2 nE s2 hE=>?_;intro sq;exact#[_,rfl,kq E H2 nE s2 hE]
noncomputable abbrev iC:Stmt:=top 7
def kE:?q ?j9 ?gT (As iC):=Bg
def UO[?u](F:Et K ?oD ?oD iC f fd)[?t][?lT](Of:Has P w K mg ?e ?HR [?R,?w7] 1 (O9 K))[?MX]:?OM ?gT (KA K):=by
 apply ?OR kE;let#[a,th,d,xs,rfl,hL,hd,k]:=h;let#[aH,aF,o9]:=T.x_FACE_COUNTS;have j8:=hr.u8
 apply#[_,(Ag (?W1 ?c3 (Oo (?TE (?WR E8) ?l) (Nv (Bo (?ON IS j8) ?jU (Iu (v:=?d aH) ?f aF rfl) rfl))))
  (Ag (?P1 kE.nd (?SR Db ?a8))
  (Ag (?W1 Df (?V4 C9 (Bt (N':=["face",?R,"level"]) (cap:=[none,?gX,?p8]) ?f ?P (?ON DB ?l) (?OB (?SP 0 Ar6)) ?V (?OB (?SR Dc (?WK ?j (Aa (?WS N4 ?o) Ac)))))))
  (?V5 (pQ (?Q7 AV ?o) (Kw (?SR Of ?b6))))))),?_]
 ext G
 apply#[_,rfl,_,_,d,rfl,.inr (.inr (.inr (.inl rfl))),hd,_,rfl,?_];cases d with
 | non=>ext j4
 | bl b=>ext j4
 | int i=>ext j4
 | str z=>ext j4
 | lst es=>ext j4
 | tup ds =>
   let#[pa,us,rfl,hq,r]:=id hd;have ul:?Q3 ds.length:=r.length;apply Oz (by simp[MQ]) ?_;apply#[_,rfl,pa,us,rfl,?A hq,?g (us.length:Int),Fg [0,2,3,4],rfl,?A #[_,_,rfl,o9 H,?vV],(by rw[V1];decide),_,rfl,?_];rw[ul]
   have cnt:(! ?LL ?EA)=! ?qP:=by
    have:?LL (?EA)=?qP:=by
     simp only[Fg,qd3,qv3,qp4,List.any_nil,eqD,dR];rw[qn7];simp only[qs1,qx6,Bool.or_false];omega
    rw[this]
   by_cases hc:?qP=true;ext cI
   . have hc':?V3 ?qP:=by simpa using hc
     apply mT (by rw[?e8,cnt,hc'];rfl) ?_;have e2:?EQ:=by rw[Qt];simp[hc']
     rw[e2]at k;ext j4
   apply Oz (by rw[?e8,cnt,hc];simp) ?_;have hn4:ds.length<=4:=(vR hc).1;apply#[_,rfl,_,ds,rfl,?A hd,?_];apply(?OY pa ?tV)
   let Bo8:?U:=λi ys τ H1=>Bw ?lM ?l3 (ys=((ds.take i).map λe=>?bB (?JE))) (?PJ [o,?n,?SU (?iY)])
   apply BP (K:=K) (a:=pa) (xs:=us) Bo8
    ?cN (?R1 ?kB s1.seqT) ?_ ?_
   . ext zF;ext b7;intro s1 Fa hys o Fv;have hi:i<us.length:=?kD;let#[e,he,re]:=r.getV hx;apply#[_,rfl,_,rfl,_,rfl,_,_,rfl,rfl,a,x,e,_,xs,rfl,?f0,?H s1 re,?_];apply#[Fa,?cB (by rw[hys,qa2,qe2];omega),?tY,Ab,?_,_,rfl];rw[qf8,he,qb0,hys];rfl
   . rintro ys τ H1 ⟨s1,Fa,hys,_⟩;rw[ul,qe7]at hys;have Bd9:ys=(ds.map ?k2).map ?bB:=by rw[hys,qm1];rfl
     rw[Bd9]at Fa;apply#[D,_,rfl,?rF,_,rfl,?_];have Aw9:(ds.map ?k2).all id=ds.all ?k2:=?u4
     by_cases ha:(ds.all ?k2)=true;ext cI
     . have ha':?V3 (ds.all ?k2):=by simpa using ha
       apply mT (by rw[Aw9,ha'];rfl) ?_;have e2:?EQ:=by rw[Qt];rw[ha',hc];rfl
       rw[e2]at k;exact ?hW
     apply Oz (by rw[Aw9,ha];simp) ?_;have e2:?C3=(?I (?iY<2) || Mi xs (ds.map WM)):=by rw[Qt];rw[ha,hc];rfl
     rw[e2]at k;ext sB;ext a2
     . have h2:(?I (?iY<2))=true:=h1;rw[h2]at k;exact ?hW
     . have h2:?V3 (?I (?iY<2)):=?C
       rw[h2]at k;have hint:=GV ha
       have tv:TI K H1 (?d pa) (ds.map WM):=by
        have:=?H s1 hd;rw[hint]at this;ext bX
       apply#[_,rfl,_,rfl,a,_,xs,ds.map WM,rfl,?f0,tv,by simpa using hn4,?_,?hW];intro f hf;rw[qd8]at ha
       have hm:L2.D.int f∈ds:=by
        rw[hint];exact qc8.mpr #[f,hf,rfl]
       have:=ha _ hm;simp only[Dq,qc3,qp7]at this;let#[#[f0,f1],f2]:=this;apply#[f0,f1,?_];rw[qa2];rw[cZ,cZ]at f2;have h3:¬?iY<2:=?cW
       rw[cZ]at h3;omega
noncomputable abbrev U9:Stmt:=top 12
def HZ:?q ?mT ?mT (As U9):=Bg
def iI[?u](F:Et K ?rE ?rE U9 f fd)[?t][?MX][?s6]:?OM ?mT (Yf K):=by
 apply ?OR HZ;let#[a,xs,k,p,n,rfl,hL,kq]:=h;apply(?W0 (L3 (?SR Dc (Aa ?j (Aa ?o ?a8))) (L3 (?SR Eg ?nE) (Kw (?Q7 Jb ?z)))));apply#[_,rfl,_,rfl,_,rfl,a,?g p,?g p,k,xs,rfl,hL,rfl,_,rfl,?_];ext z8
 . apply#[_,rfl,_,?g n,rfl,rfl,_,rfl,?_];apply ?u3;apply ?ID
   have e2:?C4=! ?I (?X n=?jK):=by
    unfold Lg;rw[e];by_cases z:n=0
    . subst z;simp
    . simp[z]
   rw[e2]at kq;exact kq
 . have e2:?V3 ?C4:=by unfold Lg;simp[e]
   rw[e2]at kq;exact kq
noncomputable abbrev F6:Stmt:=Ev ?lA 4
def Ek:?q [?aF,"i","first","j","at","quotient"] ?v3 (As F6):=Bg
def Pq[?u](F:Et K ?u7 ?FC F6 f fd)[?t][?yN]:?US ?v3 Kj:=by
 apply ?OR Ek;let#[H0,p,q,M,n,W,t,cnt,s,i,f,rfl,x,hi,hf,hif,hds,ok,k]:=h;ext sI;let ?kA:=x.ex;ext fP
 apply#[_,(Am (C4 qd1 rfl (Ve ?f ?aY (?OC ?o ?kN)) (?SP 3 Ek.nd) (Ag (?VZ Ek.nd (?OK ?Y ?z))
  (Ag (?WM Ek.nd (Bk Kx (?OK ?c8 ?S) (?OK (Ay ?a0 ?Y ?z ?F) ?S)))
  (?WO (?OS Jb ?aZ) (Aa N1 (Aa ?l (?OC ?z (My Hu ?aZ))))))))),?_]
 apply#[_,rfl,_,rfl,p,Ad,dx,fs,_,rfl,hp,?O,?eU,l3,q,_,rfl,?AM,(f:Int),(cnt:Int),?u5,O9m,?_];rw[show(((cnt:Nat):Int)-?FM).toNat=cnt-f by omega];clear lx hp l1 l2 l3 l4 l5;apply Eh (lo:=(f:Int)) (n:=cnt-f) (λd σ G=>Ut λo3 o4 o5=>σ=[?v,?bA,iS f,o3,o4,o5]/\?QD G (?s2)) #[?k,?k,?k,rfl,x] ?_ ?_
 . rintro d σ G hd Ea;revert σ;apply xF ?_;intro o3 o4 o5 y Fv;let ?kA:=y.ex;ext fP;ext sH;let ?FH:=hds ?dY O9m O9m;have bo:=?LQ;have ej:?FM+?GM=((?w8:Nat):Int):=O9m
   rw[ej];have hji:f+d≠i:=O9m
   have er:(?s2).1 ?dY=s.1 ?dY:=Yl t i f s d _ hji;ext z4;let#[cj,_,ecj,_,hcj]:=?ON ?pS (show f+d<n by omega);rw[er]at hcj;apply#[_,rfl,p,Ad,dx,fs,_,rfl,hp,?O,?eU,l3,_,rfl,q,_,_,_,rfl,rfl,?sX,?rH,?_];apply#[_,rfl,p,Ad,dx,fs,_,rfl,hp,?O,?bU,l1,_,rfl,r,_,_,_,rfl,rfl,?dV,?kE,_,rfl,ci,_,_,_,rfl,rfl,mX,?qH,_,rfl,p,Ad,dx,fs,_,rfl,hp,?O,?bU,l1,_,rfl,r,_,_,_,rfl,rfl,?dV,Bp ecj,_,rfl,cj,_,_,_,rfl,rfl,hcj,?qH,_,_,rfl,rfl,?DD,?_];have hsx:∀G',?QD G' (?CM i ?dY (-(?o9)) (?s2))->?QD G' (?uU t i f s (d+1)):=λG' z=>z.re (by rw[Lat.shrS,er]);have hq:(?o9).natAbs<2 ^ big:=Lat.fdiv_small h2 (?hX i _ hi h1);apply Ao (λσ' H'=>σ'=[?v,?bA,iS f,?c (?g (?w8:Int)),?c (?g ((t ?dY:Nat):Int)),?SU (?o9)]/\G=H') ?_ λkey=>?OD #[by rw[←?A5];rfl,rfl];rintro _ _ ⟨rfl,rfl⟩;generalize ?o9=qq at hsx hq;ext hD;ext z7
   . apply#[_,rfl,p,dx,fs,rfl,hp,?hS,_,rfl,_,rfl,_,rfl,_,rfl,?a9,?x3];have s1:?QC G ?w1:=?jV;have hT:?Q1 ?w1 (?zH):=?rC
     generalize ?w1=G1 at s1 hT;apply#[p,?iQ,Ad,r,b,_,n,W,_,_,?zH,rfl,?i9,?uT,hT,#[hi,O9m,λz=>hji z.symm,?RH (by rw[qc6];exact hq) (?hX _ _ O9m hc)],#[O9m,hi,hji,?RH (by rw[qc6,qc6];exact hq) (bo.2 _ _ hi hc)],O9m,O9m,?nR];exact#[_,_,_,rfl,hsx _ (y.redo s1 sx n1 n2 z)]
   . have h5:qq=0:=?fN
     subst h5;exact#[_,_,_,rfl,hsx _ (y.re (Lat.addS_zero _ _ _).symm)]
 . ext bN;apply xF ?_;intro o3 o4 o5 y Fv;exact k _ y
noncomputable abbrev Nt:Stmt:=Ev ?kM 4
def Ir:?q [?aF,"i","j",?fW,?dK,?hT] ?vA (As Nt):=Bg
def v5[?u](F:Et K ?sO ?AT Nt f fd)[?t](Jz:?PA P Af)(Md:?P9 P Af):?US ?vA AR:=by
 apply ?OR Ir;let#[H0,p,L,R,nm,n,w,m,i,j,l,r,f,rfl,x,hij,hj,mn,mw,ok,k1,k2]:=h;let ?o2:=x.sm;ext lR;ext z0;let#[p1,p1']:=ok.p1;let#[p2,p2']:=ok.p2
 apply#[_,(Ag (?PG Ir.nd ?c8)
  (Ag (?VZ Ir.nd ?h0)
  (Am (Cl (?OS Jb (Bk Gu ?S ?z)) (Ag (B8 (?U9 (?WK ?o ?eJ)))
  (Ag (?WM Ir.nd (Dr ?Y ?d9 Md hr (Aa ?l (?VP ?z ?S))))
  (Ag (B8 (?U9 (?VP ?l (My Hu (Bk Kx (Bk N5 ?c2 ?S) ?c2)))))
  (Ag (Ks ?c2 (Kv ?Y ?l Fp))
  (Am (Ks (Bk N5 (Bk Kx ?z ?c2) ?S) (Kv ?Y ?o Fp))))))) Bv)))),?_]
 ext G
 apply#[_,rfl,p,Ah,iZ,IW,_,rfl,hpa,?E,?eR,xH,_,rfl,nm,_,_,_,rfl,rfl,?t2,?S5 (show i<m by omega),?_];apply#[_,rfl,p,Ah,iZ,IW,_,rfl,hpa,?E,?eR,xH,_,rfl,nm,_,_,_,rfl,rfl,?t2,?S5 hj,?_];apply ?PU (?VJ j);ext bV;apply(?R2 p1);ext a2;ext cI
 . have h2:f j%f i=0:=?C
   exact k1 (?BE h2)
 ext G
 let#[dl,fl,hL,_,_,_,m4,_]:=lx.ob;apply ?O9 (λσ' H'=>σ'=(?VJ j)/\∃r1 b1,?TB H' ?oO/\LX H' Af L r1 b1 ?k n n ?oO (λa=>a=nm\/a=r2\/a=b2)/\?UY r/\H0 r1=none/\H0 b1=none)
 . apply#[_,rfl,p,Ah,iZ,IW,_,rfl,hpa,?E,?g0,zY,L,dl,fl,rfl,hL,?HT,_,rfl,_,rfl,?a9,?x3];have s1:?QC H ?tC:=?jV;have hT:?Q1 ?tC (?H2):=?rC
   generalize ?tC=G1 at s1 hT;apply#[L,?iQ,Af,r1,b1,_,n,n,l,_,?H2,rfl,?cD,?uT,hT,?CI,?CI,O9m,O9m,?nR];let ?JW:=x.left lx ly f3 f4 s1 sx n1 n2 z;exact ?OD #[rfl,r',b',y1,z,y2,?xY n1,?xY n2]
 ext zD;let#[r1',XU,x2,ZW,ly2,f1',f2']:=EE;let#[tvb,dxb,fsb,hpb,l1b,l2b,l3b,l4b,l5b,l6b,l7b,_]:=x2.ob;let#[dr,fr,hR,_,_,_,m5,_]:=ly2.ob;apply qy5 (λσ' H'=>Xy λ ?HH (g a b:Int)=>G9 (?V8 j) (?tJ (f i) (f j) g a b) (?UX H') (?TZ ?oO) (?TV L ?oO) (?UY ?pD)) ?i ?_
 . apply#[_,rfl,p,Ah,dxb,fsb,_,rfl,hpb,?E,?hJ,l4b,R,dr,fr,rfl,hR,?zZ,_,rfl,_,rfl,_,rfl,_,rfl,?_];apply#[R,Af,r2,b2,_,w,w,i,j,f i,f j,r,_,rfl,?cD,ly2,O9m,O9m,O9m,O9m,O9m,p1,p2,p1',p2',ok.br,λP g a b G fr kp hT sh z=>?_];let ?JW:=x2.right ZW ly2 f1' f2' f3 f4 fr kp z;exact ?OD #[P,g,a,b,rfl,sh,hT,y1,y2,z]
 apply Ak8 λP g a b H3 sh hT3 x3 lx3 ly3=>?_;intro sq;let ?IY:=x3.ob;let#[dl3,fl3,hL3,_,_,_,m6,_]:=lx3.ob;have g0:=sh.pos;have lg:?F7:=?PP p1';have lb:b.natAbs<L9:=qc2 sh.lb p1';ext O7;have ek:∀z:Int,z.fdiv g=z / g:=λz=>?uN;have lk':(?LF).natAbs<2 ^ 18000:=qc2 ?kG (Bc1 lb p2');apply ?O9 (?W8 (?TZ (shL i j g b f l)))
 . apply#[_,rfl,p,Ah,dxc,fsc,_,rfl,KS,?E,?g0,l3c,L,dl3,fl3,rfl,hL3,m6 _ ?c5,_,rfl,_,rfl,_,rfl,P,_,_,_,rfl,rfl,hT3,rfl,_,rfl,_,_,rfl,rfl,cV lb p2',_,rfl,P,_,_,_,rfl,rfl,hT3,rfl,_,_,rfl,rfl,cb _,_,rfl,?a9,?_];rw[ek];intro T1 hT1;have s1:?QC H3 ?x5:=?jV;have hT:?Q1 ?x5 (?GV):=?rC
   generalize ?x5=G1 at s1 hT;apply#[L,?iQ,Af,r1',XU,_,n,n,_,_,?GV,rfl,?cD,lx3.keep s1,hT,#[O9m,O9m,O9m,?RH (by rw[qc6];exact lk') (ok.bl.2.1 _ _ O9m hc)],#[O9m,O9m,O9m,?RH (by rw[qc6,qc6];exact lk') (ok.bl.2.2 _ _ O9m hc)],O9m,O9m,?nR];let#[y1,_]:=x3.left lx3 ly3 f3 f4 s1 sx n1 n2 z;exact ?OD #[rfl,jZ (s1.seqT hT3) (?U8 hL3) sx,y1]
 apply AI λH4 hT4 x4=>?_;intro sq;let#[tvd,dxd,fsd,hpd,l1d,l2d,l3d,l4d,l5d,l6d,l7d,_]:=x4.ob;apply#[_,rfl,P,_,_,_,rfl,rfl,hT4,rfl,_,rfl,p,Ah,dxd,fsd,_,rfl,hpd,?E,?eR,l5d,_,rfl,nm,_,_,i,rfl,rfl,x4.nu,Jx (?wR),?_];have e1:?IE=(?yB).map ?X:=pC O9m;have x5:=x4.num (ns':=?yB);rw[←e1]at x5;have hT5:?UX (upd H4 nm (?m (?IE))):=An9 hT4 x4.nu;apply Hv (?W8 (WX K Af Ah H0 H' p L R nm n w ?k (shL i j g b f l) ?pD (?yB))) ?_ λVr=>Vr _ _ #[rfl,hT5,x5];apply AI λH6 hT6 x6=>?_;intro sq;let#[tve,dxe,fse,hpe,l1e,l2e,l3e,l4e,l5e,l6e,l7e,_]:=x6.ob;have lA:(f i / g).natAbs<L9:=qc2 ?kG p1';apply#[_,rfl,_,rfl,P,_,_,_,rfl,rfl,hT6,rfl,_,_,rfl,rfl,cb _,_,rfl,_,_,rfl,rfl,(by rw[ek];exact cV lA p2'),_,rfl,p,Ah,dxe,fse,_,rfl,hpe,?E,?eR,l5e,_,rfl,nm,_,_,j,rfl,rfl,x6.nu,Jx (by rw[Bu];exact hj),?_];rw[ek]
 have e2:(VI m ?AD).set j (?g (f i / g*f j))=(?A4).map ?X:=by
  rw[pC hj];show VI m _=VI m _;apply Qe ?C9;unfold YW Lat.put2;by_cases z1:c=j
  . subst z1;rw[?e8,?rB,?e8]
  . rw[?aK z1];by_cases z2:c=i
    . rw[?bG z2,?bG z2]
    . rw[?aK z2,?aK z2,?aK z1]
 have x7:=x6.num (ns':=?A4);rw[←e2]at x7;exact k2 g a b _ sh x7
noncomputable abbrev Rv:Stmt:=top 67
def C3:?q [?R,"k",?hT,?u2,?y9,?mO,?b3,?fY,"turned_loops","turned_gauges","fillings",?dW,"i",?aP,?DW,"loop"] ?v7 (As Rv):=Bg
def FH[?u](F:Et K ?pQ ?pQ Rv f fd)[?t][?N6][?lS][?lQ](M9:Has P w K mg ?e ?oJ ?r9 3 (AQ K)):?OM ?v7 (Wd K):=by
 apply ?OR C3;let#[a,tp,nm,r1,D1,D2,b2,vl,vg,xs,k,z,k0,w,L,G,f,l,r,rfl,hL,K6,hw,hvl,hvg,x,hz,hkz,hkw,hf0,bl1,bl2,bL,bG,kq]:=h;let#[la,lu,rfl,hlq,Ab6,_]:=Hn hvl;let#[ga,gu,rfl,_,_,_]:=Hn hvg;have hm:?iR<=40:=?qQ;have hwl:w<=40:=by rw[hw];exact ?qQ
 apply#[_,(Ag (?SE 5 ?nE)
  (Ag (?SE 6 (?W2 (?SR Bl ?b6)))
  (Ag (?WG 7 (Bk ?oQ ?e9 (Bk PV ?JR (Bk N4 ?aZ (?V7 ?h9)))))
  (Ag (?WG 8 (?SR K3 (Aa (?WQ C6 (Aa ?e9 ?dX)) (Aa ?z ?jP))))
  (Ag (?WG 9 (?SR K3 (Aa ?e9 (Aa ?S ?jP))))
  (Ag (?WG 10 (?SR C6 (?OC ?e9 (?V7 ?h9))))
  (Ag (?WG 11 ?eI)
  (Ag (C4 qd1 rfl (?P2 (?W2 ?bM)) (?OA (?SP 12 ?cJ) (?SP 13 ?cJ)) (Ag (?WG 14 (M3 (?OS Dy (pv 13)) Fr (?SR M9 (?W5 (?VD ?l) ?m6))))
  (Ag (?WG 15 (?SR M9 (?W5 ?l ?eH)))
  (Am (?VB ?iO (Fq (Aa (pv 13) (Aa (pv 15) (?WI (?SR M9 (?W5 ?l ?eW)) (pv 14))))))))))
  (?V5 ?iO))))))))),?_]
 ext G
 apply ?O9 (λσ' H'=>σ'=[?n,?aM,?aU,?aX,?aS,?d7,none,none,none,none,none,none,none,none,none,none]/\?cV)
 . ext O6;ext lX
 ext bV;apply ?O9 (λσ' H'=>?SW none none/\?g3)
 . apply#[_,rfl,_,rfl,a,k,xs,rfl,hL,O9m,?AF];ext z1;exact ?oL
 ext j2;apply ?O9 (λσ' H'=>Dx λ(nn:Addr)=>Dw (?SW ?fL none) ?aA (?V9 nn (?GJ)))
 . have x1:=?hY s1;apply#[_,rfl,tp,_,_,_,rfl,rfl,x1.tup,rfl,?a9,λl1 hl1=>?_];have s2:?QC H1 ?JS:=?y hl1;have e2:upd H1 l1 ?n9 l1=?c ?n9:=Ab;generalize ?JS=H2 at s2 e2;have x2:=x1.same s2;apply#[_,rfl,_,rfl,tp,_,_,_,rfl,rfl,x2.tup,rfl,nm,_,rfl,?p x2.num,_,_,rfl,rfl,l1,_,_,rfl,rfl,e2,?_,?_,?_,λl2 hl2=>?_]
   . rw[Bu];omega
   . rw[Bu];omega
   . rw[Bu];exact ?yG
   have er:(?b1 (?vX-(((VI k0 f).length:Nat):Int)).toNat [?jK]).flatten=?JB:=by
    rw[Bu,show(?vX-?oM).toNat=z-k0 by omega];generalize z-k0=n
    induction n with
    | zero=>rfl
    | succ n ih=>rw[qk3,qm8,ih];rfl
   rw[er];have s3:=?bD (?y (o:=?m (?JB)) hl2);have x3:=x1.same s3;apply#[nm,l2,_,_,rfl,rfl,x3.num,?bO,B9 (by rw[Bu,qc5];omega),λnn hnn=>?_];apply ?OD #[nn,rfl,(?cU s3).trans (?y hnn),?_];rw[Ab,iK hkz]
 apply O0 λnn H2 s2 hnn=>?_;intro sq;apply ?O9 (λσ' H'=>Dx λ(tl:Addr)=>Dw (?SW ?fL ?h8) ?jD (?UL tl (dT z ?i5 (?lD z l.2 L))))
 . have x2:=?hY s2;apply#[_,rfl,tp,_,_,_,rfl,rfl,x2.tup,rfl,_,rfl,?f1,z,z,_,rfl,x2.lback,O9m,O9m,λF as H3 hal R3=>?_];apply#[_,rfl,_,rfl,?d F,?xD,z,z,?iR,_,_,rfl,R3.rep hal,?H (?bD ?kF) hvl,O9m,O9m,O9m,?QJ bl2 bL,λtl at_ H4 kR R4=>?_];exact ?OD #[tl,rfl,R3.same.trans ?tE,R4.rep kR]
 apply O0 λtl H3 s3 kR=>?_;intro sq;have s23:=?l5;apply ?O9 (λσ' H'=>Dx λ(tg:Addr)=>Dw (?SY none none) (?UH H3) (?UL tg (dT z ?i5 (?lD z l.1 G))))
 . have x3:=?hY s23;apply#[_,rfl,tp,_,_,_,rfl,rfl,?uW,rfl,_,rfl,_,rfl,?d r1,?nM,z,z,?iR,_,_,rfl,x3.left,?H s23 hvg,O9m,O9m,O9m,?QJ bl1 bG,λtg at_ H4 htg R4=>?_];exact ?OD #[tg,rfl,?tE,R4.rep htg]
 apply O0 λtg H4 s4 htg=>?_;intro sq;have YX:=s23.trans s4;apply ?O9 (λσ' H'=>Dx λ(fi:Addr)=>Dw (?SY ?jJ none) (?UH H4) (?UL fi (dT w w r.1)))
 . have x4:=?hY YX;let#[_,du,ez,hdq,Bg8,_]:=Hn ?IP;cases ez;apply#[_,rfl,tp,_,_,_,rfl,rfl,?vO,rfl,_,rfl,tp,_,_,_,rfl,rfl,?vO,rfl,D2,du,rfl,?p hdq,?_];rw[Bg8];apply#[?eM,w,w,_,rfl,?IP,O9m,O9m,λfi at_ H5 hfi R5=>?_];exact ?OD #[fi,rfl,R5.same,R5.rep hfi]
 apply O0 λfi H5 s5 hfi=>?_;intro sq;apply ?O9 (λσ' H'=>Dx λ ?jY=>Bw (?SY ?jJ ?Z) (?UH H5) (H5 D=none) ?JV)
 . ext N7
 apply Mm λD H6 s6 nD hD=>?_;intro sq;have s25:=YX.trans s5;have Au2:=(?pV s5) _ _ hnn;have Be2:=?H (?xU) kR;have Be3:=?H s5 htg;have hL5:=?H s25 hL;apply ?O9 (λσ' H'=>eE λ ?iP ?IX=>Bw (σ'=?I9) (?UH H5) (?eS=?gG) (B7 H' us (?TL Gp k)))
 . apply(?VS nn #[_,?OE s6 Au2])
   let Bo7:?aN:=λi σ G'=>eE λ ?iP ?IX=>Bw (σ=?I9) (?h H5 G') (G' D=?gG) (B7 G' us (?l6 (?TL JJ k)))
   apply Ub (K:=K) (a:=nn) (xs:=?GJ) Bo7
    #[[],?k,?k,?k,?k,rfl,s6,hD,trivial] (λi σ G' _ hz=>by let#[_,_,_,_,_,_,g,_]:=hz;exact ?OE g Au2) ?_ ?_
   . rintro i v σ G' p hv Ea hp
     ext aH
     ext NA;have hi:i<z:=by have:=?fV;rwa [Bu]at this
     rw[Cm hi]at hv;cases hv;have usl:?Q3 i:=by have:=rU.len;rw[qa2,qd9]at this;ext bX
     have sp:?QC G' ?CL:=?cS;have ep:upd G' p (?UG ?eN) p=?c (?UG ?eN):=Ab;apply(?OU p ep);generalize ?CL=G1 at sp ep;have g1:=?jQ
     have rows:∀(t:Addr) (h w':Nat) (M:Lat.Mat) (G2:Hp),Rep K G2 ?oC (dT h w' M)->i<h->∃tu b,SqL K G2 t tu/\dX tu ?a3=?c (?mG)/\SqL K G2 b (VI w' (M i)):=λt h w' M G2 hr hih=>by
      let#[_,tu,ez,hq,hl,Oc]:=Hn hr;cases ez;obtain⟨u,hu⟩:∃u,tu[i]?=?c u:=#[tu[i],qa1 O9m]
      let ?FX:=Oc i u hu;exact#[tu,b,hq,Bp hu,hb]
     apply ?O9 (λσ' H'=>Dx λ(fl:Addr)=>Dw (σ'=[?n,?aM,?aU,?aX,?aS,?d7,?e3,?fL,?h8,?i2,?jJ,?Z,?bS,?HM,rS fl,ZK]) ?pF (?VF fl (if ?nQ=0 then [] else VR xs (k+1) (r.1 i))))
     . ext hD;ext a2
       . have e0:?nQ=0:=?C
         apply λfl hfl=>?OD #[fl,rfl,?y hfl,?_];rw[Ab,?bG e0];rfl
       . have e0:¬?nQ=0:=?C
         have hik:i<k0:=by
          by_cases hh:i<k0
          . exact hh
          . unfold Lat.numAt at e0;rw[?aK hh]at e0;exact ?fF rfl e0
         let ?wO:=rows fi w w r.1 G1 (?H g1 hfi) O9m;apply#[_,rfl,_,rfl,_,_,rfl,rfl,_,rfl,_,rfl,fi,tu,_,_,rfl,rfl,h1q,h2q,a,b,xs,k+1,Ie w (r.1 i),rfl,?H g1 hL5,O9m,?tF,by rw[Jw,hw],λfl G2 nfl g2 hfl=>?_];apply ?OD #[fl,rfl,g2,?_];rw[hfl,?aK e0,hw];rfl
     apply O0 λfl G2 g2 hfl=>?_;intro sq;have OH:=?eQ;apply ?O9 (λσ' H'=>Dx λ(lp:Addr)=>Dw (σ'=[?n,?aM,?aU,?aX,?aS,?d7,?e3,?fL,?h8,?i2,?jJ,?Z,?bS,?HM,rS fl,rS lp]) (?UH G2) (?VF lp (VR xs k (?lD z l.2 L i))))
     . let ?wO:=rows tl z ?i5 _ G2 (?H OH Be2) hi;apply#[_,rfl,_,rfl,_,rfl,_,rfl,tl,tu,_,_,rfl,rfl,h1q,h2q,a,b,xs,k,Ie ?i5 (?lD z l.2 L i),rfl,?H OH hL5,O9m,?tF,?zJ,λlp G3 nlp g3 hlp=>?_];exact ?OD #[lp,rfl,g3,hlp]
     apply O0 λlp G3 g3 hlp=>?_;intro sq;have XO:=OH.trans g3;have Ao4:=(?kI g2).trans g3;let ?wO:=rows tg z ?i5 _ G3 (?H XO Be3) hi;apply#[_,rfl,?p #[rfl,_,?OE Ao4 Ct],_,rfl,_,rfl,_,rfl,_,rfl,_,rfl,_,rfl,tg,tu,_,_,rfl,rfl,h1q,h2q,a,b,xs,k,Ie ?i5 (?lD z l.1 G i),rfl,?H XO hL5,O9m,?tF,?zJ,λgp G4 ngp g4 hgp=>?_];apply#[_,rfl,?a9,?pE];have g5:=?y (o:=?PM fl) ht;have et:upd G4 t (?PM fl) t=?c (?PM fl):=Ab;generalize upd G4 t (?PM fl)=G5 at g5 et;have g45:=?qM;have s05:=Ao4.trans g45;apply#[D,_,_,rfl,rfl,?rL,?bJ,?_];have hP:Hr G5 ?oC (JJ xs k z k0 L G f l r i):=#[t,lp,gp,fl,rfl,et,g45 _ _ hlp,g5 _ _ hgp,(?l4 g45) _ _ hfl,(At (g3 _ _ hfl) ngp).symm]
     have nDt:∀c o,?B4->(∀vs,o≠?m vs)->?hH:=λc o e h z=>by
      rw[z,?rL]at e;cases e;exact h _ rfl
     have sx:∀c o,?hH->?B4->upd G5 D (?m (?vI)) c=?b9:=λc o hc e=>by rw[Ak hc];exact e
     apply#[?vI,_,_,_,_,rfl,?Q6 s05 nD,Ab,?_];rw[qg6,qb0];exact B7.snoc (B7.put (?rL) (B7.same s05 rU)) (Hr.put hP (?rL))
   . rintro σ G' Ea;ext NA;rw[Bu]at rU;exact ?OD #[us,_,_,_,_,rfl,g,Ct,rU]
 apply Ak7 λus o12 o13 o14 ZK H7 s7 hD7 rU=>?_;intro sq;exact#[_,rfl,kq D us H7 (s25.free nD) (s25.trans s7) hD7 rU]
noncomputable abbrev Nu:Stmt:=Ev (top 69) 4
def n6:?q ?fO ?fO (As Nu):=Bg
def v6[?u](F:Et K ?u1 ?JQ Nu f fd)[?t][?yU]:?OM ?fO ?LG:=by
 apply ?OR n6;ext MG
 ext MK
 have hat:?zP:=by
  have:=Bp e1
  ext NY
 apply#[_,(Ag (?W7 (?VA 4))
  (?V5 (Aw ?bE ?aW qh6 (?W2 (Bt (N':=[?fM]) (cap:=?d5) ?f ?P (?ON Cg ?c8) (?OB (?SP 0 IL)) (?OB (Ql (?WL Dy (?SZ ?j)))) (?OB ?j)))))),?_]
 ext G
 ext MH
 let Bo6:?U:=?VK (ys.length=(?FG λp=>?M0).length) ?fI
 apply Qw (K:=K) (a:=E) (xs:=eu) Bo6
  ?cN (?SQ g (sB _ _ hE)) ?_ ?_
 . ext j3;ext b7;ext MI
   have y40:?jB:=by
    have h3:=qh4 (λp:BPart=>?M0) (?oI);rw[qe2]at h3;omega
   ext yK
   . have QZ:?rU:=?cW
     apply#[_,rfl,Ct,?bJ,?tQ,Ab,?_,_,rfl];rw[Z9,qg3,ql0,?R5 ?bG,qp2,qa8,qa8,yl];rfl
   . have QZ:¬?rU:=?cW
     ext MU
 . ext zC;apply#[D,ys,rfl,?p (?f2),?_];rw[el,qe7]at yl;rw[yl];exact kq ps G hps g
noncomputable abbrev Lz:Stmt:=Ev (top 69) 5
def Yq:?q ?fO ?fO (As Lz):=Bg
def Za[?u](F:Et K ?xG ?DI Lz f fd)[?t][?yU]:?OM ?fO ?AA:=by
 apply ?OR Yq;ext MG
 ext MK
 have hat:?zP:=by
  have:=Bp e1
  ext NY
 apply#[_,(Ag (?W7 (?VA 4))
  (?V5 (?WF ?c8 (?OB (Ql (Bo Jb (?SZ ?j) Al ?w)))))),?_]
 ext G
 ext MH
 let Bo5:?U:=λi ys τ G=>Bw ?dM ?c4 (ys=((?FG λp=>?I (p.1≠0)).map (·.1)).map ?X) ?fI
 apply Qw (K:=K) (a:=E) (xs:=eu) Bo5
  ?cN (?SQ g (sB _ _ hE)) ?_ ?_
 . ext j3;ext b7;ext MI
   have y40:?jB:=by
    have h3:=?SJ 0 (?oI);rw[qe2]at h3;rw[yl,qa2,qa2];omega
   ext yK
   . have QZ:¬?rU:=?cW
     apply#[_,rfl,t,_,_,_,rfl,rfl,?k9,rfl,Ct,?bJ,?tQ,Ab,?_,_,rfl];rw[Z9,qg3,ql0,?R5 ?bG,qp2,qb0,qb0,yl];rfl
   . have QZ:?rU:=?cW
     ext MU
 . ext zC;rw[el,qe7]at yl;apply kq ps D G hps hD g ?_;rw[Ct,yl];rfl
noncomputable abbrev R9:Stmt:=top 11
def eY:?S7 R9:=Bg
def FN[?u](F:Et K ?nP ?nP R9 f fd)[?t](Z2:Has P w K mg ?e ?rE ?mT 4 (Yf K)):?SD ?c7 Lb:=by
 apply ?OR eY;let#[a,b,xs,k,ms,rfl,hL,hb,hm,kq]:=h
 apply#[_,(Ag (?W1 Df (C9 (Aw GP ?e5 B6 (?OC ?o (Gm (v:=.ty "dict") rfl ?vF Oi rfl)))))
  (?W6 (IE (Bt (N':=[?b0,?aP,?R,"k"]) (cap:=[none,none,?gX,?h6]) ?f ?P (Ku ?o) (?SO WY WY) ?V (?OB (?SR Z2 (Aa ?o (Aa ?z ?b6)))))))),?_]
 ext G
 apply#[_,rfl,b,_,rfl,?p hb,_,rfl,?_];ext cX;apply ?A #[b,?c9,hb,?kJ];apply#[_,rfl,b,o,?c9,rfl,Ab,?W];let#[xO,HA]:=Z7 hD
 let Bo4:?U:=λi zs τ H1=>Er (zs=((ms.take i).map ?LX).map ?bB) (H1 b=?c (?PD ?c9)) (?QR H1) (Rj b H H1) (?OX [o1,o2,?n,?aM])
 apply Su (d:=b) (o:=o) (kvs:=?c9) Bo4
  #[rfl,?_,Ab,?_,?k,?k,rfl] (λi zs τ H1 _ hz=>?Q9 #[_,e,_]) ?_ ?_
 . ext j6;exact Ab
 . intro c q n1 e2;rw[Ak (At e2 xO),?lP];exact e2
 . rintro i kk x zs τ H1 p hx Ea hp;revert τ;apply QS ?_;intro hz1 hb1 Fa hk1 o1 o2 Fv;subst hz1;ext lW;have hlt:?FE:=?mQ;have sp:?h H1 (upd H1 p ?mW):=?cS;ext hC;apply#[_,rfl,_,rfl,_,rfl,_,rfl,a,xs,k,q.1,q.2,rfl,?H sp (Rep.x hk1 hb hL),?_];apply#[?tO,?xM,?_,?_,Ab,λc r n1 e2=>?_,_,_,rfl]
   . rw[qp9,hq,qb0,qb0];rfl
   . ext j6;exact sp _ _ hb1
   . rw[Ak (λz=>by rw[z,xO]at e2;cases e2)];exact sp _ _ (hk1 c r n1 e2)
 . rintro zs τ H1 ⟨rfl,hb1,Fa,hk1,_⟩;rw[Ga,qe7]at Fa;apply#[hb1,D,ms.map ?LX,rfl,.of (?AG),?_];rw[qq5];apply kq _ λc q e2=>?_;by_cases z:c=b
   . subst z;rw[hb]at e2;cases e2;exact Ab
   . rw[?i4];exact hk1 c q z e2
noncomputable abbrev Kq:Stmt:=top 30
def Ji:?q [?i1,?b0,?i0] [?i1] (As Kq):=Bg
def W3[?u](F:Et K ?nG ?nG Kq f fd)[?t](rA:Has P w K mg ?e ?oD ?gT 4 (KA K)):?SD [?i1] Ye:=by
 apply ?OR Ji;let#[v,xs,rfl,hL,hs,hx,k]:=h;let#[a,us,rfl,hq,r]:=?jN;have hl:?CF:=?mY
 apply#[_,(Ag (C4 qd1 rfl (?P2 ?a4) (?OA (?SP 1 Ji.nd) (?SP 2 Ji.nd)) (Am (Cl (?OL rA (Aa (Mz ?iT ?j Qo (Qn ?l)) ?aI)) (?V5 ?l) Bv)))
  (?V5 iE)),?_]
 ext G
 apply(?VS a #[us,hq])
 let Bo3:?aN:=λi σ G=>F1 λo1 o2=>σ=[?n,o1,o2]/\?h H G
 apply Ub (K:=K) (a:=a) (xs:=us) Bo3
  #[?k,?k,rfl,?y8 H] (?RW #[_,_,_,s1] ?p2) ?_ ?_
 . rintro i v σ G p hv Ea hp
   ext aH
   revert σ;apply xG ?_;intro o1 o2 s1 Fv;have hi:?BW:=by have:=?fV;omega
   let ?x2:=r.getV hv
   have edv:dv=?AJ:=by
    rw[qb4,?gP]at kU;simpa using kU.symm
   subst edv;have sp:?QC G ?HA:=?cS;ext hC;generalize ?HA=G1 at sp;have s2:=?k6;apply#[_,rfl,_,rfl,_,rfl,a,us,rfl,s2.seq hq,?C9];have s3:?QC G1 ?CU:=?y hc;have ec:upd G1 c (?m (?VX ?c)) c=?SX (?VX ?c):=Ab;generalize ?CU=G2 at s3 ec;have s4:=?l5
   have Ac0:LT K G2 (?d c) (?IL):=by
    apply#[c,_,rfl,.of ec,?_];rw[rV,List.map_take];exact(?dG s4 r).take i
   apply#[_,rfl,c,v,?AJ,?IL,rfl,Ac0,?H s4 rv,λG3 s5=>?g8];rw[NC (hs i xs[i] ?p5)];apply ?FT;exact#[_,_,rfl,?xU]
 . ext bN;apply xG ?_;intro o1 o2 s1 Fv;exact k G s1
noncomputable abbrev Ly:Stmt:=Ev ?lA 2
def He:?q [?aF,?v1,"i","at","head",?dK] ?vH (As Ly):=Bg
def Y9[?u](F:Et K ?x0 ?F5 Ly f fd)[?t][?MY][?yN](Jq:?P9 P Ad):Bz P w K mg ?e Eo 5 f fd ?vH (?OH ER):=by
 apply ?OR He;let#[H0,p,q,M,n,W,t,?L,i,s,Nx,rfl,x,hs,hi,ok,k]:=h;ext sI;let ?I1:=x.ex;ext fP;ext sH;let ?FH:=ok.hd ?L (qa3 _) hs;let#[o1,o2]:=ok.oth;ext z4;let ?GK:=?ON ?pS ?lC
 apply#[_,(Ag (?PG He.nd ?c8)
  (Ag (?VZ He.nd (?OK ?c8 ?z))
  (Ag (?WM He.nd (?OK ?h0 ?z))
  (Ag (Cl (?OS Dy (Bk Gu ?aZ ?S)) (?T3 Cw (?W2 (Fq (Aa N1 (?VP ?l (My Hu (Bk Kx ?aZ ?S))))))) (Ag (B8 (Dr ?j ?O Jq hr (?WK ?o (Aa ?S ?dX))))
  (?T3 Ch (?OC ?l (?VD ?l)))))
  (?T3 Ch (?OC ?o (?VD ?l))))))),?_]
 ext G
 apply#[_,rfl,p,Ad,dx,fs,_,rfl,hp,?O,?eU,l3,_,rfl,q,_,_,_,rfl,rfl,?HU,?S5 hs,?_];apply#[_,rfl,p,Ad,dx,fs,_,rfl,hp,?O,?bU,l1,_,rfl,r,_,_,_,rfl,rfl,?dV,Bp ecs,_,rfl,cs,_,_,_,rfl,rfl,hcs,?qH,?_];apply#[_,rfl,p,Ad,dx,fs,_,rfl,hp,?O,?bU,l1,_,rfl,r,_,_,_,rfl,rfl,?dV,?kE,_,rfl,ci,_,_,_,rfl,rfl,mX,?qH,?_];apply Ao (λσ' H'=>?uQ/\?cV) ?_ ?EW;ext bV;apply qy5 (t:=?v5) (λσ' H'=>?uQ/\∃s1,?P5 H' s1/\BU n W t i ?fB i s1/\Hds W t ?fB i s1.1/\Nx (?uU t i ?fB s1 (i-?fB))) ?i ?_
 . apply(?R2 h2);ext z7
   . have h5:?hO%?iC=0:=?fN
     have h6:?hO=?xH*?iC:=(Int.ediv_mul_cancel (?BE h5)).symm;let ?BH:=ok.add _ h6;apply#[_,rfl,p,dx,fs,rfl,hp,?hS,_,rfl,_,rfl,_,rfl,_,rfl,_,_,rfl,rfl,?DD,_,rfl,?a9,?_];rw[?A5];have hk:(?xH).natAbs<L9:=qc2 ?kG o2;generalize ?xH=kk at h6 PZ pZ hk;intro T1 hT1;have s1:?QC H ?xQ:=?jV;have hT:?Q1 ?xQ (?xZ):=?rC
     generalize ?xQ=G1 at s1 hT;apply#[p,?iQ,Ad,r,b,_,n,W,_,_,?xZ,rfl,?i9,?uT,hT,#[hi,O9m,O9m,λc hc=>iM (by rw[qc6];exact hk) (ok.bo.1 _ _ O9m hc)],#[O9m,hi,O9m,λc hc=>iM (by rw[qc6,qc6];exact hk) (ok.bo.2 _ _ hi hc)],O9m,O9m,?nR];apply ?OD #[rfl,_,x.redo s1 sx n1 n2 z,PZ,?DX,pZ];have e:(tnS (?xZ) s).1 j=?q8:=Lat.addR_row_ne (?Q8 i);rw[e];exact ?D3
   . apply ?WA (λσ' H'=>?uQ/\∃g a c,?tJ (?iC) (?hO) g a c/\?P5 H' (?vT));ext cI
     . apply#[_,rfl,p,dx,fs,rfl,hp,?hS,_,rfl,_,rfl,_,rfl,_,rfl,?_];apply#[p,Ad,r,b,_,n,W,?L,i,_,_,s,_,rfl,?i9,lx,O9m,hi,O9m,O9m,O9m,h2,o1,h3,o2,ok.bo,λL g a c G fr kp _ sh z=>?_];exact ?R9 #[rfl,g,a,c,sh,x.redo2 lx f1 f2 fr kp z]
     apply Ha λG EE=>?_;intro sq;let#[g,a,c,sh,y]:=EE;let#[PZ,pZ,ok3]:=ok.ble g a c sh
     have hd1:Hds W t ?fB i (?vT).1:=λj hj1 hj2=>by
      have e:(?vT).1 j=?q8:=?KI (?Q8 spot) (?Q8 i) _ _ _ _;rw[e];exact ?D3
     ext MJ;apply#[H0,p,q,M,n,W,t,i,_,?L,?hU,rfl,y,O9m,O9m,?p O9m,hd1,PZ,?zL];apply ?OD #[rfl,_,z,pZ,?DX,ok3];rw[Yl _ _ _ _ _ _ (?Q8 spot)];exact hd1 j hj1 hj2
 apply Ha λG EE=>?_;intro sq;let#[s1,y,PZ,hd1,pZ]:=EE;ext MJ;exact#[H0,p,q,M,n,W,t,i,s1,i,?hU,rfl,y,hi,O9m,?A (qa3 _),hd1,PZ,λG' z=>k _ _ z pZ]
noncomputable abbrev Jk:Stmt:=Ev ?lA 3
def Mu:?SM ?jX Jk:=Bg
def Vg[?u](F:Et K ?x1 ?E4 Jk f fd)[?t][?MY]:?T6 5 Yg:=by
 apply ?OR Mu;let#[H0,p,q,M,n,W,t,i,s,rfl,x,ok,k]:=h;ext sI;let ?kA:=x.ex;ext fP;apply#[_,(Am (C4 qd1 rfl (UI ?f ?aY (Aa (?WS N4 ?kN) (?OC (My Hu Al) (My Hu Al)))) (?SP 1 Mu.nd) (?T3 Ch (?OC ?l (?VD ?l))))),?_];apply#[_,rfl,p,Ad,dx,fs,_,rfl,hp,?O,?eU,l3,q,_,rfl,?AM,_,_,rfl,rfl,_,rfl,_,rfl,i+1,?u5,O9m,?_];clear lx hp l1 l2 l3 l4 l5
 let Bo2:?aN:=λd σ G=>Dx λo1=>σ=?JL/\SX Ad H0 G p q M n W t ?aT (?zR)
 apply RC (hi:=((i+1:Nat):Int)-1) (n:=i+1) Bo2 ?G6 ?_ ?_
 . rintro d σ G hd Ea
   ext aH
   revert σ;ext zE;let ?kA:=y.ex;ext fP;rw[show((i+1:Nat):Int)-1-?GM=((i-d:Nat):Int) by omega];let ?BH:=?LQ;apply#[_,rfl,p,dx,fs,rfl,hp,?hS,_,rfl,_,rfl,_,_,rfl,rfl,?_];apply#[H0,p,q,M,n,W,t,i+1,?zR,i-d,i-d+1,rfl,y,O9m,O9m,?p O9m,PZ,pZ,?zL];rw[show i+1-(i-d+1)=d by omega]at z;exact#[_,rfl,z]
 . ext bN;ext zE;exact k _ y
noncomputable abbrev F5:Stmt:=Ev ?kM 3
def Cs:?SM [?aF,?mO,"gap","i","j"] F5:=Bg
def Pp[?u](F:Et K ?t1 ?ET F5 f fd)[?t](Jy:Ka P w K mg ?e Ah ?sO ?vA 4 (?OH AR)):?T6 5 aS:=by
 apply ?OR Cs;let#[H0,p,L,R,nm,n,w,m,l,r,f,Sv,rfl,x,mn,mw,v0,vs,k]:=h;let#[JM,Ae7,PK]:=T.x_GAPS;let ?o2:=x.sm;ext lR
 apply#[_,(Ag (Av (i:=1) ?lL ?kN)
  (Ag (C4 qd1 rfl (?ON DB (Iu (v:=?d JM) ?f Ae7 rfl)) (?S6 2) (Am (C4 qd1 rfl (?PC (?W2 (Bk N4 ?l ?o))) (?S6 3) (?UC (Bk Cc ?z ?o)))))
  (Am (C4 qd1 rfl ?qA (?S6 3) (Am (C4 qd1 rfl (Ve ?f ?aY (Aa (?VD ?z) ?a8)) (?S6 4) (?UC ?S))))))),?_]
 ext G
 apply ?O9 (λσ' H'=>σ'=[?v,?bT,none,none,none]/\?cV)
 . exact#[_,rfl,p,Ah,iZ,IW,_,rfl,hpa,?E,?eR,xH,nm,_,rfl,?p (?t2),?OD #[by rw[qa2,Jw];rfl,rfl]]
 ext bV;apply ?O9 (λσ' H'=>F1 λ ?HI=>?U3 o3 none/\∃(d:Nat) (f:?iD) (l r:?eY),d<=5*m/\?p9/\?TB H' l)
 . apply#[JM,rfl,#[_,PK H],?_]
   let Bo1:?aN:=λg σ' G=>F1 λ ?HI=>?U3 o3 none/\∃(d:Nat) (f:?iD) (l r:?eY),d<=g*m/\?J6
   apply vK (K:=K) (a:=JM) (xs:=(([32,16,8,4,2]:?v9).map ?X)) Bo1 #[?k,?k,rfl,0,f,l,r,O9m,v0,x] (λg σ G _ _=>PK G) ?_ ?_
   . rintro g y σ G hy Ea
     ext aH
     let ?HC:=Ea
     have hg:∃gp:Nat,y=?g ?vZ/\1<=gp/\gp<=32/\g<5:=by
      match g,hy with
      | 0,hy=>cases hy;exact(?QO 32)
      | 1,hy=>cases hy;exact(?QO 16)
      | 2,hy=>cases hy;exact(?QO 8)
      | 3,hy=>cases hy;exact(?QO 4)
      | 4,hy=>cases hy;exact(?QO 2)
      | g+5,hy=>simp at hy
     let#[gp,rfl,g1,g2,g5]:=hg;apply#[_,rfl,_,rfl,_,_,rfl,rfl,_,rfl,O9m,O9m,?_];apply Eh (lo:=0) (n:=(?cT-?vZ).toNat) (λi σ' G=>Dx λ(o3:?oY)=>σ'=[?v,?bT,?SU ?vZ,o3,none]/\∃(d:Nat) (f:?iD) (l r:?eY),d<=g*m+i/\?J6) #[o3,rfl,d,f,l,r,hd,hv,z] ?_ ?_
     . rintro i σ G hi ⟨o3,rfl,d,f,l,r,hd,hv,z⟩;rw[qk8];ext N9
       have hm5:g*m+m<=5*m:=by
        have:=qc0 m (show g+1<=5 from g5);rw[qg0,qf9]at this;ext bX
       apply#[_,rfl,p,dxc,fsc,rfl,KS,?L4,_,rfl,_,rfl,_,rfl,_,_,rfl,rfl,?_];let ?BK:=?S3 (i+gp);apply#[H0,p,L,R,nm,n,w,m,i,i+gp,l,r,f,rfl,z,O9m,O9m,mn,mw,o1,?KA,?L1]
       . exact#[_,rfl,d+1,f,l,r,O9m,o2' kU,z]
       . exact#[_,rfl,d+1,_,_,_,O9m,?KK,z']
     . rintro σ G ⟨o3,rfl,d,f,l,r,hd,hv,z⟩;apply#[_,_,rfl,d,f,l,r,?_,hv,z];rw[qg0,qf9];omega
   . rintro σ G ⟨o2,o3,rfl,d,f,l,r,hd,hv,z⟩;exact ?OD ?HC
 apply OQ λo2 o3 G EE=>?_;intro sq;let#[d,f,l,r,hd,hv,z]:=EE;ext z9;apply Eh (lo:=0) (n:=(?cT).toNat) (λi σ' G=>F1 λ(o3 o4:?oY)=>?U3 o3 o4/\∃(d:Nat) (f:?iD) (l r:?eY),d<=5*m+i*m/\?p9/\?DK m i f/\?tK) #[o3,?k,rfl,d,f,l,r,O9m,hv,λa b ha=>O9m,z] ?_ ?_
 . rintro i σ G hi ⟨o3,o4,rfl,d,f,l,r,hd,hv,hc,z⟩;rw[qd6]at hi;rw[qk8]
   have him:i*m+m<=m*m:=by
    have:=qc0 m (show i+1<=m from hi);rw[qg0,qf9]at this;ext bX
   apply#[_,rfl,_,_,rfl,rfl,_,rfl,_,_,rfl,?EZ,?_];apply Eh (lo:=?a3+1) (n:=?EO) (λj σ' G=>Dx λ(o4:?oY)=>?U3 ?bS o4/\∃(d:Nat) (f:?iD) (l r:?eY),d<=5*m+i*m+j/\?p9/\Lat.ChainAt m i (?rD) f/\?tK) #[o4,rfl,d,f,l,r,O9m,hv,hc.at,z] ?_ ?_
   . rintro j σ G hj Ea
     ext aH
     let#[o4,rfl,d,f,l,r,hd,hv,hc,z]:=Ea;rw[show ?a3+1+?iV=((?rD:Nat):Int) by omega];ext N9;apply#[_,rfl,p,dxc,fsc,rfl,KS,?L4,_,rfl,_,rfl,?_];let ?BK:=?S3 (?rD);apply#[H0,p,L,R,nm,n,w,m,i,?rD,l,r,f,rfl,z,O9m,O9m,mn,mw,o1,?KA,?L1]
     . exact#[_,rfl,d+1,f,l,r,O9m,o2' kU,hc.skip kU,z]
     . exact#[_,rfl,d+1,_,_,_,O9m,?KK,hc.step O9m O9m sh.pair,z']
   . rintro σ G ⟨o4,rfl,d,f,l,r,hd,hv,hc,z⟩;rw[show i+1+?EO=m by omega]at hc;apply#[_,_,rfl,d,f,l,r,?_,hv,hc.next,z];rw[qg0,qf9];omega
 . rintro σ G ⟨o3,o4,rfl,d,f,l,r,hd,hv,hc,z⟩;rw[qd6]at hc;exact k d f l r _ hv hc z
noncomputable abbrev Ep:Stmt:=top 13
def K7:?q ?rI ?rI (As Ep):=Bg
def K8[?u](F:Et K ?qL ?qL Ep f fd)[?t][?yO]:?P0 ?rI (Fz K):=by
 apply ?OR K7;let#[a,b,xs,n,ms,rfl,hL,hb,hm,hn,kq]:=h;apply(?W0 (Aw (?ON Zs ?f) T.n_any BQ (Aa (Bt (N':=["k",?R,?cM]) (cap:=?K9) ?f ?P (?PC ?aI) (?OB (?SP 0 Ar5)) ?V (?OB (?SR E3 (?WK ?j ?aI)))) Ac)));ext z2
 let Bo0:?U:=λi zs τ H1=>Bw ?lM (?QR H1) (zs=(?l6 ?y4).map ?bB) (?PJ [o,?n,?e2])
 apply Lk Bo0
  ?cN ?_ ?_
 . rintro i zs τ H1 hi Ea;ext b7;intro s1 Fa hzs o Fv;have hi2:i<n:=O9m
   apply#[_,rfl,_,rfl,_,rfl,a,b,xs,_,ms,rfl,?f0,?n3,hm,?wC];apply#[?JZ,?cB (by rw[hzs,qa2,qa2,qd9];omega),?RB ?eE,Ab,?_,_,rfl];rw[qg6,qb0,qb0,hzs,show(?tR)=?a3 by omega];rfl
 . rintro zs τ H1 ⟨s1,Fa,hzs,_⟩;rw[qd6]at hzs;apply#[D,?IW ?y4,rfl,.of (by rw[Fa,hzs]),?_];rw[List.any_map];exact kq _ s1
noncomputable abbrev R6:Stmt:=top 28
def EW:?q ?dJ ?dJ (As R6):=Bg
def FL[?u](F:Et K ?oB ?oB R6 f fd)[?t](Jr:Has P w K mg ?e ?H6 ?dJ 1 (kC K))(Mf:Has P w K mg ?e ?nG [?i1] 5 (Ye K)):?P0 ?dJ (Ti K):=by
 apply ?OR EW;let#[v,xs,rfl,hL,hs,K6,k]:=h;apply(?PV Jr (Kw (D8 ZH (?SR Mf ?a4) iE ?w)));apply#[_,rfl,v,xs,rfl,hL,K6,_,rfl,?_];apply mT ?f ?_;exact#[_,rfl,v,xs,rfl,hL,hs,K6,λH1 s1=>#[rfl,?hW]]
noncomputable abbrev Jl:Stmt:=Ev ?lA 1
def Hy:?q [?aF,"i",?v1] ?jX (As Jl):=Bg
def Vh[?u](F:Et K ?tZ ?C6 Jl f fd)[?t](M8:Has P w K mg ?e ?FF [?gM] 1 (Tl K))[?yN](Mc:Ka P w K mg ?e Ad ?x0 ?vH 5 (?OH ER)):Bz P w K mg ?e Eo 6 f fd ?jX (?OH Yh):=by
 apply ?OR Hy;let#[H0,p,q,M,n,W,t,i,s0,I,rfl,x,hi,P,ht,k]:=h;ext sI
 apply#[_,(Ag (?P1 Hy.nd Al)
  (Ag (Ts qd1 (?c3 (IC (Bo AV ?o ?l ?w) (CH (?RC pW)))) (Ag (Cl (?RC Dy) (?T3 Mc (Aa ?o ?a8)) Bv)
  (Am (?P1 Hy.nd (?VD ?o)))))
  (Ag (?T2 Ma)
  (Ag (?T2 Ma)
  (Ag (B8 (Ma (K:=K) qg5 qt3 qt2 Vj ?Y (?OC ?o (?SR M8 ?kO))))
  (?WO (?WL AV (?OK ?h0 ?h0)) (Aa N1 ?aI))))))),?_]
 ext G
 apply ?PU [?v,?bA,?SU ?MB];ext bV;apply ?O9 (λσ' H'=>Ut λspot st s=>G9 ?rY (SX Ad H0 H' p q M n W t i s) ?C8 ?C5 (Hq W (?gL) st) ((spot<i->st<?iM)))
 . apply#[λm σ' G=>F1 λspot s=>Er ?rY (?P5 G s) ?C8 ?C5 (m=i-spot),#[_,0,s0,rfl,x,P.start,?b5,rfl],?_];rintro m σ G Ea;apply uZ ?_;intro _;let#[?L,s,rfl,y,hI,hs,rfl]:=Ea;let#[st,hb]:=Hq.ex (P.ok ?L s hs hI);let ?kA:=y.ex;ext fP;ext sH;ext z4;apply(?UU _);ext a2
   . have hlt:spot<i:=by have:?q2<?a3:=?C
                         omega
     apply#[_,rfl,p,Ad,dx,fs,_,rfl,hp,?O,?eU,l3,_,rfl,q,_,_,_,rfl,rfl,?sX,?S5 hlt,_,rfl,p,Ad,dx,fs,_,rfl,hp,?O,?bU,l1,_,rfl,r,_,_,_,rfl,rfl,?dV,?kE,ci,W,st,_,rfl,mX,hb,O9m,_,_,rfl,rfl,_,rfl,?_];apply ?x9
     . have hle:t spot<=st:=by have:?JY:=?cW
                               omega
       apply#[λσ' G'=>F1 λJZ s'=>Bw (σ'=[?v,?bA,?c (?g ((JZ:Nat):Int))]) (?LY) (I JZ s') (JZ=?hU),?_,?_]
       . rintro σ' G' ⟨JZ,s',rfl,z1,z2,rfl⟩;exact#[i-?fB,O9m,?hU,s',rfl,z1,z2,hlt,rfl]
       apply Ao (t:=?v5) (λσ' G'=>?v8/\∃s',?LY/\I ?fB s') ?_ ?eF;ext cI
       . apply#[_,rfl,p,Ad,dx,fs,_,rfl,hp,?O,?eU,l3,_,rfl,q,_,_,_,rfl,rfl,?sX,?S5 hlt,_,rfl,p,Ad,dx,fs,_,rfl,hp,?O,?bU,l1,_,rfl,r,_,_,_,rfl,rfl,?dV,?kE,ci,W,st,_,rfl,mX,hb,O9m,rfl,_,rfl,?_];apply ?zY
         . have he:?iM=st:=by
            have:?nY=?w4:=?nC
            omega
           apply#[_,rfl,p,dx,fs,rfl,hp,?hS,_,rfl,_,rfl,?_];apply#[H0,p,q,M,n,W,t,?L,i,s,I ?fB,rfl,y,hlt,hi,P.meet ?L s hlt hI (?EJ) (by rw[he];exact hb.2.1),λG' s' z1 z2=>?_];exact ?R9 #[rfl,s',z1,z2]
         . have he:¬?iM=st:=by
            have:¬?nY=?w4:=?nC
            omega
           exact ?R9 #[rfl,s,y,P.skip ?L s hlt hI ?EJ]
       rintro _ G' ⟨rfl,s',z1,z2⟩;exact#[_,rfl,_,_,rfl,rfl,?hU,s',rfl,z1,z2,rfl]
     . have hle:¬t spot<=st:=by have:¬?JY:=?cW
                                omega
       exact ?OD #[?L,st,s,rfl,y,hI,hs,hb,λ_=>O9m]
   . have hlt:¬spot<i:=by have:¬?q2<?a3:=?C
                          omega
     exact ?OD #[?L,st,s,rfl,y,hI,hs,hb,λz=>?fF z hlt]
 apply Al1 λspot st s G y hI hs hb hex=>?_;intro sq;let ?I1:=y.ex;ext fP;ext sH;let ?pT:=lx.bk;let ?H8:=lx.refs;have rb:=lx.ne;let#[ci,rci,oJ,mci,mX]:=?mI;let#[di,rdi,edi,mdi,hdi]:=?FP
 have six:∀l:Nat,i<l->seqIndex? ?C2 l=?c i:=λl hl=>by
  unfold seqIndex?;simp only[show ¬?C2<0 by omega,if_false,qd6]
  first | (rw[?rB]) | (rw[?bG ?jH]) | (simp;omega)
 apply ?O9 (λσ' H'=>Dw ?rY ((∀a,a≠r->H' a=G a)) (?V9 r (?WD ci ?dU)))
 . apply#[_,rfl,p,Ad,dx,fs,_,rfl,hp,?O,?bU,l1,?p #[rfl,_,?dV],_,rfl,_,rfl,p,Ad,dx,fs,_,rfl,hp,?O,?bU,l1,?p #[rfl,_,?dV],_,rfl,r,_,_,i,_,rfl,rfl,?lF,O9m,O9m,six _ (by ext sK),oJ,?_];apply(?V2 r (by ext NQ));ext NQ
 apply AI λG1 e1 r1=>?_;intro sq;apply ?O9 (λσ' H'=>Dw ?rY ((∀a,a≠b->H' a=G1 a)) (?V9 b (?WD di ?f3)))
 . have hp1:G1 p=_:=(e1 _ pr).trans hp;have b1:G1 b=_:=(e1 _ rb.symm).trans ?wJ;apply#[_,rfl,p,Ad,dx,fs,_,rfl,hp1,?O,?p4,l2,?OZ b1,_,rfl,_,rfl,p,Ad,dx,fs,_,rfl,hp1,?O,?p4,l2,?OZ b1,_,rfl,b,_,_,i,_,rfl,rfl,b1,O9m,O9m,six _ (by ext sL),edi,?_];apply(?V2 b (by ext NR));ext NR
 apply AI λG2 e2 b2=>?_;intro sq;have r2:=(e2 _ rb).trans r1;have e02:∀a,a≠r->a≠b->G2 a=G a:=λa h1 h2=>(e2 a h2).trans (e1 a h1);have hp2:=(e02 _ pr pb).trans hp;have qr:q≠r:=λz=>lx.nr ?FD;have qb:q≠b:=λz=>lx.nb ?FD;have q2:=(e02 _ qr qb).trans y.st;let#[ya,ma]:=xa.move hi hs rci r2 λa ha=>e02 a (?y1).1 (?y1).2.1;let#[yb,mb]:=xb.move hi hs rdi b2 λa ha=>e02 a (?mZ).1 ?GS;let ?GK:=?ON ya.row ?lC
 have Aw4:Lat.moveR s.1 i ?L ?L=?gL:=by
  rw[Lat.move_row];unfold Lat.mvI;rw[?rB,?e8]
 rw[Aw4]at hcs;apply ?O9 (λσ' H'=>?v8/\SX Ad H0 H' p q M n W (?DH t ?L st) ?aT (?G7))
 . apply#[_,rfl,p,Ad,dx,fs,_,rfl,hp2,?O,?eU,l3,?OZ q2,_,rfl,_,rfl,p,Ad,dx,fs,_,rfl,hp2,?O,?bU,l1,_,rfl,r,_,_,_,rfl,rfl,.of r2,Bp (by rw[bF,Vl]at ecs;exact ecs),cs,W,st,_,rfl,hcs,hb,O9m,?_];apply#[q,_,?L,_,rfl,rfl,q2,by rw[Bu];exact hs,?G5,?OD ?kT];rw[HS hs];have qp:p≠q:=Fh hp y.st ?dA;apply#[#[r,b,#[#[dx,fs,by rw[Ak qp];exact hp2,l1,l2,l3,l4,l5],#[_,ya.put qr.symm λa ha z=>(?H1).2.2 ?D9,λa ha=>?H1],#[_,yb.put qb.symm λa ha z=>(?D0).2.2 ?D9,λa ha=>?D0],rb,lx.nr,lx.nb,?nZ],f1,f2],Ab,λa o e=>?_,y.fp,y.fq,y.mq,#[sZ,SY,O9m]]
   . by_cases haq:a=q
     . rw[haq,Ab]at z;cases z
     . rw[Ak haq,e02 a (λe=>lx.nr ?L5) (λe=>lx.nb ?L5)]at z;exact lx.nn a ha z
   . rw[Ak (At e y.fq),e02 a (At e f1) (At e f2)];exact y.same _ _ e
 apply Ha λG3 z=>?_;intro sq;let#[r3,b3,l3x,_]:=z.ex;let#[dx3,xP,hp3,l1,l2,l3,l4,l5]:=l3x.ob;let#[as3,xa3,na3]:=l3x.rw;let#[c3,_,ec3,_,hc3]:=?ON xa3.row ?lC;have RI:(?G7).1 ?L=?gL:=Aw4;rw[RI]at hc3
 have est:?DH t ?L st ?L=st:=by
  unfold Lat.insT;rw[?rB,?e8]
 apply#[_,rfl,p,Ad,dx3,xP,_,rfl,hp3,?O,?bU,l1,_,rfl,r3,_,_,_,rfl,rfl,.of xa3.2.1,Bp ec3,_,rfl,p,Ad,dx3,xP,_,rfl,hp3,?O,?eU,l3,_,rfl,q,_,_,_,rfl,rfl,.of z.st,?rH,c3,_,_,_,rfl,rfl,hc3,Bp (by rw[est];exact Cm hb.2.2),_,_,rfl,rfl,_,rfl,?_];ext z7
 . have h5:s.1 i st<0:=?fN
   apply#[_,rfl,p,dx3,xP,rfl,hp3,?hS,_,rfl,?a9,?x3];have s1:?QC G3 ?vR:=?jV;have hT:?Q1 ?vR (.mi ?L):=#[T1,_,rfl,?bO,?DS]
   generalize ?vR=G4 at s1 hT;apply#[p,?iQ,Ad,r3,b3,_,n,W,_,_,.mi ?L,rfl,?i9,l3x.keep s1,hT,?lC,?lC,O9m,O9m,λr' b' G5 sx n1 n2 w=>?_];apply k _ ?L st s hs hI hb hex ((z.redo s1 sx n1 n2 w).re ?_);rw[Lat.insS,?bG (by rw[RI];exact h5)];rfl
 . have h5:¬s.1 i st<0:=?fN
   apply k _ ?L st s hs hI hb hex (z.re ?_);rw[Lat.insS,?aK (by rw[RI];exact h5)]
noncomputable abbrev Pf:Stmt:=top 78
def CD:?q ?gT ?gT (As Pf):=Bg
def CO[?u](F:Et K ?n4 ?n4 Pf f fd)[?t][?yO][?lT]:?P0 ?gT (AO K):=by
 apply ?OR CD;let#[a,l,xs,wu,lf,rfl,hL,K6,hl,dd,hll,ok,k]:=h;let ?FI:=?jN
 apply#[_,(Ag (?W1 ?c3 (?WJ ?fA))
  (?W6 (Bt (N':=[?i0,"lift",?R]) (cap:=?xR) ?f ?P (?TN ?b6) (?SO qF qF) ?V (?OB (?SR E3 (Aa ?o (Aa (?WS Cc (?WQ Db ?a4)) ?a8))))))),?_]
 ext G
 ext MV
 have wul:?JK:=dd.1;apply ?O9 (?T4 [?n,?a1] ?cV)
 . apply ?HB;ext dN;apply#[_,rfl,l,_,rfl,?p (.of hl),_,rfl,a,_,rfl,?gC,rfl,_,rfl,?_];apply Oz (by rw[usl,wul,hll];simp) ?_;ext lX
 ext bV;apply#[_,rfl,_,rfl,a,l,rfl,?tV,?HO,?W]
 apply Qv (K:=K) (a:=a) (b:=l) (xs:=us) (ys:=wu) (n:=xs.length) O9m (λi zs τ G=>Bw ?dM (?QR G) (?R4 zs) (?OX [o1,o2,?n]))
  ?lK (?UI #[g.seq hq,?OE g hl]) ?_ ?_
 . rintro i x y zs τ G p hx hy Ea hp;revert τ;apply ?nB;intro g Ct hz1 o1 o2 Fv;subst hz1;have hi:?BW:=by have:=?kD;omega
   have sp:?QC G ?IG:=?cS;have hp1:upd G p (?x [x,y]) p=?c (?x [x,y]):=Ab;generalize ?IG=G1 at sp hp1;have g1:=?jQ;let ?x2:=r.getV hx
   have edv:dv=tI (?sZ):=by
    rw[qb4,?gP]at kU;rw[qa0,?gP];simpa using kU.symm
   subst edv;let#[c,rfl,_,hc]:=dd.2 i y hy;let#[k1,k2]:=ok i hi;ext NL;apply#[_,rfl,_,rfl,x,?EX,rfl,?A (?H g1 rv),?_];rw[show(?EX).length=(?sZ).length from ?wQ];apply#[_,_,rfl,rfl,_,rfl,a,c,xs,_,_,rfl,?pP,g1 _ _ hc,O9m,?g2];rw[k2];apply#[?xA,?mL,?uA,Ab,?_,_,_,rfl];ext j5
 . rintro zs τ G ⟨g,Ct,rfl,_⟩;apply#[D,?JO,rfl,?f2,?_];rw[?PB ?JO];exact k G g
noncomputable abbrev Va:Stmt:=top 80
def iA:?S7 Va:=Bg
def II[?u](F:Et K ?q6 ?q6 Va f fd)[?t](Vy:Has P w K mg ?e ?mB ?dJ 2 (AN K))[?yO]:?P0 ?c7 (eO K):=by
 apply ?OR iA;let#[a,v,A,xs,k,p,rfl,hL,hp,ok,kq]:=h;let#[t,ra,ga,fa,rfl,et,e1,e2,e3,_]:=hp;have l1:=ok.c1.ok.len;have l2:=ok.c2.ok.len;have l3:=ok.c3.ok.len
 apply#[_,(Ag (?W1 ?c3 (Oo (?TE dU ?o) (Oo (?OS Jb (?V7 ?aI)) (Nv (?OL Vy ?h9)))))
  (Ag (?W1 ?c3 (Oo (?OL E3 (?V1 ?l)) (Oo (?OL E3 (?V1 ?l)) (Nv (?OL E3 (?V1 (?VD ?l)))))))
  (?V5 (pQ (?Q7 Jb ?e9) (Kw (?Q7 Dy (Aw bQ ?aW qh6 ?h9))))))),?_]
 ext G
 apply ?O9 (?T4 [?n,?aM,?eC] ?cV)
 . apply(?Q2 t et);ext dN;apply#[_,rfl,t,_,rfl,?A (?k9),rfl,_,rfl,?_];ext cX;apply#[_,rfl,t,_,_,_,rfl,rfl,?E1,rfl,p.1,rfl,ok.od,_,rfl,?_];ext dN;ext lX
 ext bV;apply ?O9 (?T4 [?n,?aM,?eC] ?g3)
 . apply#[_,rfl,_,rfl,_,rfl,t,_,_,_,rfl,rfl,?E1,rfl,a,ra,xs,k,_,rfl,hL,e1,O9m,?oX];rw[ok.c1.chain];ext dN;apply#[_,rfl,_,rfl,_,rfl,t,_,_,_,rfl,rfl,?tH,rfl,a,ga,xs,k,_,rfl,?f0,?U8 e2,O9m,λH2 s2=>?g8];rw[ok.c2.chain];ext dN;have s12:=?eE;apply#[_,rfl,_,rfl,_,_,rfl,rfl,_,rfl,t,_,_,_,rfl,rfl,?OE s12 et,rfl,a,fa,xs,k+1,_,rfl,?E2,s12 _ _ e3,O9m,λH3 s3=>?g8];rw[ok.c3.chain];ext dN;exact ?OD #[rfl,?uZ]
 ext j2;apply(?PH t ?tH);ext a2
 . exact ?FK
 . have h2:?kX:=?C
   apply#[_,rfl,t,_,_,_,rfl,rfl,?tH,rfl,fa,_,rfl,?U8 e3,rfl,?_];rw[ok.z h2];exact ?FK
noncomputable abbrev Yt:Stmt:=top 45
def Qj:?q [?R,?dE,?dW,?b0,?aP] ?h4 (As Yt):=Bg
def MG[?u](F:Et K ?qJ ?qJ Yt f fd)[?t](Ez:Has P w K mg ?e ?qL ?rI 6 (Fz K))(Sn:Has P w K mg ?e ?rR ?t8 2 (Tj K)):?SC ?h4 Mp:=by
 apply ?OR Qj;let(?S9 #[kc,mU,hch]):=h;ext sG
 apply#[_,(Ag (Cl (Df (C9 (?SR Ez (Aa ?j (?OC ?l (?VA 4)))))) ?r5 Bv)
  (Ag (?P1 Qj.nd Fr)
  (Ag (CI (?WP (?OA (?SP 3 Qj.nd) (?SP 4 Qj.nd)) (?WC Sn (?VP ?iJ ?S))))
  ?lB))),?_]
 ext G
 apply#[_,rfl,_,rfl,a,b,xs,4,ms,rfl,hL,hb,hm,?K,?L8];have hany:((?aR 4).any ?y4)=true:=ql9.mpr #[kc,qd0.mpr mU,hch];ext m1;rw[hany];ext cX;have hL1:=?f0;have hb1:=?n3;apply ?W;have HA:b≠D:=At hb1 hD;have s2:?QC H1 ?CG:=?bK;have hL2:=?H s2 hL1;have hb2:=?PZ hb1;generalize hH2:?CG=H2 at s2 hL2 hb2;have Xt:H2 D=?c ?cG:=by rw[←hH2];exact Ab
 apply ?A #[b,?c9,hb2,?kJ];apply(?RV b ?c9)
 let Bn9:?aN:=λi σ G=>F1 λo1 o2=>Bw (σ=[?n,?e2,?Z,o1,o2]) (G b=?c (?PD ?c9)) (G D=?T0 (?vM)) ((?RQ H2 G))
 apply Qs (d:=b) (o:=o) (kvs:=?c9) Bn9
  ?B2 (λi σ G _ hz=>?JA) ?_ ?_
 . ext j6;exact Xt
 . intro c q n1 n2 e;rw[?lP];exact e
 . rintro i kk x σ G p hx Ea hp
   ext aH
   revert σ;apply ?pW;intro o1 o2 MX Ct hkG Fv;ext lW;have npb:b≠p:=At MX hp;have npD:D≠p:=At Ct hp;have hlt:?FE:=?mQ;have hqd:?tA=q:=by rw[qa0,hq];rfl
   have hpart:=qd8.mp hch q ?mF
   have hin:0<=q.1/\q.1<?lJ:=by
    unfold Lg at hpart;rw[qc3]at hpart;exact fC hpart.1
   have sp:?QV p ?mW:=?cS
   have VH:LT K G ?n1 xs:=by
    have e1:Rj b H2 (?UD b):=λc r n e=>by rw[Ak n];exact e
    have l1:=Rep.x e1 hb2 hL2;have d1:(?UD b) D=?c ?cG:=by ext j6;exact Xt
    have e2:Rj D (?UD b) G:=λc r n e=>by
     by_cases z:c=b
     . subst z;rw[Ab]at e;cases e;exact MX
     . rw[?i4]at e;exact hkG c r z n e
    exact Rep.x (m:=[]) e2 d1 l1
   let#[us,v,xK,hat,tv]:=?w0 (?H sp VH) hin.1 hin.2;ext hC
   have hfl:(?zM).length<=4:=by
    rcases Lh (l:=xs) (i:=?dO) (d:=[]) with z | z
    . exact h4 _ z
    . rw[z];exact ?b5
   have hbl:=aZ h4 ms i;apply#[_,rfl,_,rfl,_,rfl,a,us,_,v,rfl,rfl,xK,hat,_,rfl,D,v,?vM,?zM,q.2,rfl,?Q5 sp,tv,O9m,λG2 sG2 GD=>?_];apply#[_,_,rfl,sG2 _ _ HA (sp _ _ MX),?_,?DV]
   . rw[GD];show _=?c (HO.dK (cK (jM (?vM) (?d8 (?tA).1.toNat []) (?tA).2)));rw[hqd]
   . exact sG2 c r n2 (sp _ _ (hkG c r n1 n2 e))
 . ext bN;apply ?pW;intro o1 o2 MX Ct hkG Fv;rw[Ga]at Ct;apply#[MX,_,rfl,kq D _ (?gH hD) (λc q e=>?_) (by ext j6;exact Ct)];by_cases z:c=b
   . ext z5
   . rw[?i4];exact hkG c q z (At ?qV hD) (?PZ ?qV)
noncomputable abbrev U5:Stmt:=top 57
def Nn:?q [?a5,?b3,?qS,"stairs","i",?hT] ?sS (As U5):=Bg
def IF[?u](F:Et K ?rX ?rX U5 f fd)[?t](Vs:GZ P w K mg ?e Ad ?dR 2 (?OH eS))[?N4](Jp:Ka P w K mg ?e Ad ?tZ ?jX 6 (?OH Yh))(Jo:Ka P w K mg ?e Ad ?x1 ?cC 5 (?OH Yg)):Bz P w K mg ?e Eo 7 f fd ?sS (?OH Wi):=by
 apply ?OR Nn;let#[v,L,r,b,sv,N,n,w,M,P,PB,J,rfl,hv,lx,hn,hw,TJ,j0,jt,k]:=h;let(?RU GC Oc):=?jZ;ext fP;let#[ps,xp,np]:=lx.rw;let ?pT:=lx.bk;have nN:?LS:=?SI lx.nn
 apply#[_,(Ag (Av (i:=3) Nn.nd (M1 Vs hr ?f T.m_Stairs (Aa (Bt (N':=[?gM,"paper"]) (cap:=?uV) ?f ?P (?TN (?OC ?j (?W9 ?o))) (?SO QG QG) ?V (?OB (Bk ?oQ ?j ?l))) (?W2 (?TU (Aa (?ON Bb ?o) Ac))))))
  (Ag (C4 qd1 rfl (?PC (?W2 ?fA)) (?SP 4 Nn.nd) (Ag (B8 (Dr ?z ?O Jp hr (?W2 ?S)))
  (Am (B8 (M0 ?z ?O Jo hr)))))
  (Ag (?WM Nn.nd (M1 K0 hr ?f ?rV (Aa (Bt (N':=?uR) (cap:=?wA) ?f ?P (?ON Cg (?W9 ?z)) (?OB (?SP 0 qD)) ?V (?OB (Mz ?iT ?j (Qn ?l) Qo))) (?W2 (?ON Bb ?z)))))
  (?V5 (Fq (Aa (Bt (N':=?uR) (cap:=?wA) ?f ?P (?ON Cg (?W9 ?z)) (?OB (?SP 0 qD)) ?V (?OB (Mz ?iT ?j Qo (Qn ?l)))) ?dX)))))),?_]
 ext G
 apply ?O9 (λσ' H'=>F1 λp q=>?TS none/\SX Ad H H' p q (λa=>?s3) n ?hE (λ_=>0) 0 (?J0,PB))
 . apply#[_,rfl,_,rfl,L,Af,dx,fs,_,rfl,hp,?d9,?q0,l1,ta,r,rfl,#[_,GC],#[_,?AY],?W]
   apply Qv (K:=K) (a:=ta) (b:=r) (xs:=us) (ys:=?kR ?aB) (n:=n) (by rw[Zv,qa2,xp.1,qv2]) (λi zs τ H1=>Dx λcs=>Bw (zs=cs.map ?aB) (cs.length=i) (?dD H H1 D cs ?hE (?J0)) (?OX [o1,o2]))
    #[[],rfl,rfl,?uC hD,?k,?k,rfl] (?UJ ?JJ #[?e7 GC,?e7 (?AY)]) ?_ ?_
   . rintro i x y zs τ H1 pr hx hy ⟨cs,rfl,hcl,R,o1,o2,rfl⟩ qX;let#[hi,bx,rfl,hbx]:=Oc i x hx;let#[cy,_,ey,_,hcy]:=?ON xp.row hi;rw[ey]at hy;cases hy;have sp:?UN pr [?d bx,?d cy]:=?uP;ext NN;apply#[_,rfl,_,rfl,bx,cy,_,_,rfl,rfl,sp.seq (?e7 hbx),sp.seq (?e7 hcy),B9 (by rw[Bu,Bu];omega),?h5];have sE:?h (?PT pr [?d bx,?d cy]) (upd (?PT pr [?d bx,?d cy]) E (?m (VI w (M i)++VI n (P i)))):=?fZ;apply#[sE _ _ (sp _ _ R.at),?eD,cs++[E],?hR,?D6,?_,_,_,rfl];apply ?nH (sp.free hE) (?kI sE) ?_;rw[hcl,Ab,jN (h:=?E9 w M P i) (λc hc=>Lat.beside_lo hc) (λa _=>Lat.beside_hi w M P i a)]
   rintro zs τ H1 ⟨cs,rfl,hcl,R,_⟩;have hp1:=?JX;apply#[_,rfl,L,Af,dx,fs,_,rfl,hp1,?d9,?qR,l2,b,_,rfl,?p (?OE ?cP ?wJ),λB hB=>?_];intro p tH np' wW ZL;have s2:?QC H1 ?KG:=?y hB;have hB2:upd H1 B (?m (?f3)) B=?oN:=Ab;generalize ?KG=H2 at s2 hB2 np' wW;have s3:?QC H2 ?H4:=?oP np';have s03:=(?pY s2).trans s3;have f2:∀a,?A0->?hQ:=λa e=>(?pY s2).free e;apply#[p,tH,_,_,rfl,Ab,λq H4 fs' hq hfs sx hq4 Q0=>?kT];generalize ?H4=H3 at s3 s03 hq sx;have f3:∀a,?GN->?hQ:=?H3;have st:∀a o,H2 a=?b9->?J3:=?R8 np';have xc:=(?vB s2)
   have tN:TA H2 B bs n n PB:=#[xb.1,hB2,λi c e=>?PZ (?cP _ _ (?l8 i c e))]
   have hHB:?TG B:=?zO hB;have Bj0:=?L2
   have q2:H2 q=none:=?wI hq;have nM:∀a,H2 a≠none->?q9->¬(?s3):=λa h1 h2 h3=>h3.elim (λz=>h1 (z▸q2)) h2;apply ?OD #[p,q,rfl,#[#[D,B,#[#[tH,fs',Q0,?_,?_,?_,?g7,?_],#[cs,xc.same st,?cF],#[bs,?uX st,?cF],?_,?_,?_,?nZ],?jA,hHB],hq4,λa o e=>?DY,f2 _ np',f3 _ hq,?cD,#[O9m,O9m,?b5]]]
   . rw[hfs];ext aG
   . rw[hfs];ext aG
   . rw[hfs];ext aG
   . rw[hfs,Ar,?f8,Ar,?f8,Ar,?f8];rfl
   . rw[hfs];exact qa5 ?h1 (qa5 ?qX (?QY (qj0 ?qX)))
   . ext N5;exact#[z2,At z3 hB,nM _ (by rw[?PZ z3];ext lZ) (nN _ z1)]
   . have:=?vK a ha;apply#[λz=>this ?xL,λz=>this (z▸hHB),nM a (tN.there.2 a ha) ?FR]
   . exact At R.at hB
   . exact nM D (by rw[Bj0];ext lZ) (nN _ ?jA)
   . exact nM B (by rw[hB2];ext lZ) (nN _ hHB)
   . rcases ha with rfl | ha
     . rw[hq4]at z;cases z
     . cases e:H a with
       | none=>exact ?JN
       | some o=>rw[?DY]at z;cases z
 apply OQ λp q H1 x0=>?_;intro sq;apply ?O9 (λσ' H'=>?VM (?UO H' n) n)
 . apply#[_,rfl,ta,us,rfl,?p (x0.same.seq GC),_,rfl,O9m,O9m,?_];apply Eh (lo:=0) (n:=(?HX:Int).toNat) (λi σ' G=>?VM (?UO G i) i) #[?k,_,_,rfl,x0,j0 _] ?_ ?_
   . rintro i σ G hi Ea;revert σ;apply XE ?_;intro o4 t s y hJ Fv;rw[qd6,Zv]at hi;rw[qk8];let#[I,hP,hD]:=TJ.step i t s hi hJ;let#[r3,b3,ly,_]:=y.ex;let#[dx3,xP,hp3,_,_,_,m4,_]:=ly.ob;apply#[_,rfl,p,dx3,xP,rfl,hp3,?HT,_,rfl,H,p,q,_,n,w+n,t,i,s,I,rfl,y,hi,hP,jt i t s hJ,λG1 spot st s' hs hI hb hex z=>?_];let#[d1,d2]:=hD ?L st s' hs hI hb hex;let#[r4,b4,lz,_]:=z.ex;let#[dx4,fs4,Q0,_,_,_,m5,_]:=lz.ob;apply#[_,rfl,p,dx4,fs4,rfl,Q0,?zZ,H,p,q,_,n,w+n,_,i,_,rfl,z,d1,λG2 z2=>?_];exact#[_,_,_,rfl,z2,d2]
   . ext bN;apply XE ?_;intro o4 t s y hJ Fv;rw[qd6,Zv]at y hJ;exact ?OD #[o4,t,s,rfl,y,hJ]
 apply WJ λo4 t s G y hJ=>?_;intro sq;let#[r,b,ly,f1,f2]:=y.ex;let ?xN:=ly.ob;let ?uS:=ly.rw;let ?pT:=ly.bk;have s0:=y.same;apply ?O9 (λσ' H'=>F1 λ(L' E:Addr)=>Er (σ'=[?dP,?cQ,?cO,?v,o4,rS L']) ?mR (?TG L') (?TG E) (LX H' Af L' E b ?k n n ?xC N))
 . apply#[_,rfl,p,Ad,dx,fs,_,rfl,hp,?O,?bU,l1,r,rfl,#[_,?dV],?h5];have xa':=?lF
   let Bn8:?U:=?P3 (?dD G G1 E cs n (?A2))
   apply ?PN Bn8 #[[],rfl,rfl,?uC hE,?k,rfl]
   . ext MO
     ext N8;apply(?RF hc);have sF:?h G1 (?RI ?LO ?k):=?vC;ext MM;rw[hcl,Ab,wC]
   ext NF;have hp1:=?JX;apply#[_,rfl,p,Ad,dx,fs,_,rfl,hp1,?O,?p4,l2,?_];intro L' dJ nL wW ZL;have s3:?QC G1 ?xB:=?oP nL;apply#[L',dJ,Af,_,_,rfl,?cD,Ab,λH4 fs' hfs hH4=>?kT];have sx:?bP L' (?xB) H4:=by rw[hH4];ext O4
   have hL4:H4 L'=?c (?N Af dJ fs'):=by rw[hH4];exact Ab
   clear hH4;generalize ?xB=G3 at s3 sx;have st:∀a o,G1 a=?b9->?J3:=?R8 nL;have nN':∀a,?SB G->?q9:=λa e=>nN a (?o4 e);apply ?OD #[L',E,rfl,?pY st,?o4 (?zO nL),?o4 ?jA,#[#[dJ,fs',hL4,?_,?_,?_,?g7,?_],#[cs,?vB st,?cF],#[bs,(xb.same ?cP).same st,?cF],?_,nN' _ ?jA,?_,?nZ]]
   . rw[hfs];ext aG
   . rw[hfs];ext aG
   . rw[hfs];ext aG
   . ext MN
   . ext N0
   . ext N5;exact#[z2,λz=>?D7 ?IT,nN' _ z1]
   . exact#[λz=>?vK a ha ?xL,?GS,λz=>?FR (?A z)]
   . exact λz=>?D7 ?xL
   . exact λz=>ly.nb (?A z)
   . cases e:H a with
     | none=>exact ?JN
     | some o=>rw[st _ _ (?cP _ _ (s0 _ _ e))]at z;cases z
 apply OP λL' E G4 s4 fL fE lx4=>?_;intro sq;have Q0:=s4 _ _ hp;have xa':=s4 _ _ ?lF;apply#[_,rfl,p,Ad,dx,fs,_,rfl,Q0,?O,?bU,l1,r,rfl,(?UW xa'),?W]
 let Bn7:?U:=?P3 (?dD G4 G1 D cs w (λx a=>s.1 x a))
 apply ?PN Bn7 ?l1
 . ext MO
   ext N8;apply(?RF (s4.seq hc));have sF:?h G1 (?RI ?k ?LO):=?vC;ext MM;rw[hcl,Ab,Ay4]
 ext NF;apply#[_,rfl,?a9,?IO];have s5:?h G1 (upd G1 tp (?x ?K3)):=?y htp;have pI:=?pY s5;exact k tp D L' E b cs t s _ ((?uJ s4).trans pI) hJ (?bO) (?vB s5) (lx4.keep pI) ((?uJ s4).free ?jA) fL fE f2
noncomputable abbrev Pg:Stmt:=top 79
def cE:?S7 Pg:=Bg
def cP[?u](F:Et K ?mU ?mU Pg f fd)[?t](E9:Has P w K mg ?e ?nW ?mD 2 (EN K))(Z3:Has P w K mg ?e ?q6 ?c7 6 (eO K)):?SC ?c7 aP:=by
 apply ?OR cE;let#[a,l,A,xs,k,us,ps,rfl,hL,hl,pp,pl,ok,nx,kq]:=h;have ul:=pp.1
 apply#[_,(Ag (?W1 ?c3 (Oo (?VL Oh ?o) (Nv (Df (?V4 C9 (Bt (N':=[?fM,?R,"k"]) (cap:=?K9) ?f ?P (?ON Cg ?o) (?OB (?SP 0 zO)) ?V (?OB (?SR Z3 (?WK ?o ?a4)))))))))
  (?V5 (?WQ E9 (?W2 (?WF ?o ?V))))),?_]
 ext G
 apply ?O9 (?T4 [?n,?aM,?a1] ?g3)
 . apply ?HB;ext dN;apply(?OY l ?HO)
   let Bn6:?U:=?VK ?m4 (?PJ [o,?n,?aM])
   apply Cr (K:=K) (a:=l) (xs:=us) Bn6
    ?cN (?SQ g hl) ?_ ?_
   . ext j3;ext b7;intro g Ct hz1 o Fv;subst hz1;ext yW;apply#[_,rfl,_,rfl,_,rfl,a,v,A,xs,k,p,rfl,?HD,?o8 g,?M1,?g2];apply#[?mA,?mL,?iH hD,Ab,?_,_,rfl];ext j5
   . ext sD;apply#[D,?sV,rfl,?f2,_,rfl,?_];ext cX;exact ?OD #[rfl,g]
 ext j2;apply#[_,rfl,l,rfl,?GZ,?W]
 let Bn5:?U:=λi ys τ G=>Bw ?lN ?c4 (ys=((?kR (·.1)).take i).map ?X) ?fI
 apply Cr (K:=K) (a:=l) (xs:=us) Bn5
  ?cN (?SQ g (s1 _ _ hl)) ?_ ?_
 . ext j3;ext b7;intro g Ct yl o Fv;ext yW;let#[t,ra,ga,fa,rfl,et,_]:=?o8 (?f5);have ey:(?kR (·.1)).take ?aT=(?kR (·.1)).take i++[p.1]:=by rw[qf8,qb4,hp];rfl
   apply#[_,rfl,t,_,_,_,rfl,rfl,?k9,rfl,Ct,?cB (by rw[yl,qa2,qe2];omega),?tQ,Ab,?_,_,rfl];rw[ey,yl,qb0];rfl
 . ext zC;rw[ul,ql5 (?uI)]at yl;subst yl;exact#[D,?kR (·.1),rfl,?f2,?uI,nx,λH' g2=>kq H' (?l9 g2)]
noncomputable abbrev R7:Stmt:=top 48
def eX:?q ?h4 ?h4 (As R7):=Bg
def fM[?u](F:Et K ?nT ?nT R7 f fd)[?t][?s4]:?Q4 ?h4 Wg:=by
 apply ?OR eX;let(?S9 hc):=h;apply(?W0 (?Q7 Dy (Aw bQ ?aW qh6 (Aa (?SR Fi ?b6) Ac))));apply#[_,rfl,_,rfl,a,b,xs,ms,rfl,hL,hb,hm,h4,hc,λD H' hD s' hD'=>?_];apply#[D,_,rfl,hD',rfl,?_]
 have e:?RE cK=?I ((?nN).length=0):=by
  rw[Ga];by_cases z:(?nN).length=0
  . rw[z];simp
  . rw[qf2 z];simp;intro q;refine z;rw[q];rfl
 show Q (?bB (?RE cK)) H';rw[e];exact kq H' s'
noncomputable abbrev Kr:Stmt:=top 49
def Jj:?q [?R,"k",?vD,"columns"] ?gA (As Kr):=Bg
def W4[?u](F:Et K ?pB ?pB Kr f fd)[?t][?yU][?lQ][?lS](P3:Has P w K mg ?e ?KS ["spots",?dE] 1 (Q8 K))[?s4]:?Q4 ?gA Om:=by
 apply ?OR Jj;let#[a,xs,k,rfl,hL,K6,h4,h0,h5,kq]:=h;ext sG
 apply#[_,(Ag (?W7 (?WS Cc (?VA 4)))
  (Ag (Av (i:=2) Jj.nd (?SR Bl (?OC ?j (?WS N4 ?l))))
  (Ag (cI (N':=[?b0,?vD,?R]) (cap:=[none,?p8,?gX]) (i:=3) Jj.nd ?f ?pX ?f ?P (?ON Cg (?SR Bl ?b6)) (?OB (?SP 0 zR)) ?V (?OB (?SR P3 (?WI ?l (?WQ Fi (?VI ?o))))))
  (?V5 (?SR C6 (?OC ?z (Aw ?bE ?aW qh6 ?aI))))))),?_]
 ext G
 apply#[_,rfl,_,_,rfl,rfl,k,5,rfl,h0,h5,?_];apply ?PU [?n,?aM,none,none];ext bV;apply ?O9 (λσ' H'=>Dx λ(B:Addr)=>Dw (σ'=[?n,?aM,rS B,none]) ?aA (?V9 B ((?jC).map ?X)))
 . apply#[_,rfl,_,rfl,_,_,rfl,rfl,a,k-1,xs,rfl,hL,K6,λB H1 hB s1 hB1=>?_];exact ?OD #[B,rfl,s1,hB1]
 apply O0 λB H1 s1 hB=>?_;intro sq;have hL1:=?f0;have bl:?rO<=1000:=?tS;have cl:?LM:=?tS;apply ?O9 (λσ' H'=>F1 λ(C:Addr) ?i3=>Dw (σ'=[?n,?aM,rS B,rS C]) (as.length=?rM) (?dD H1 H' C as ?rO (?TQ 0)))
 . apply#[_,rfl,_,rfl,a,k,xs,rfl,hL1,K6,λP H2 hP s2 hP2=>?_];apply#[P,rfl,(?UW hP2),?W]
   let Bn4:?U:=λi ys τ G=>Dx λ ?i3=>Bw ?q1 ?oW (?dD H2 G D as ?rO (?TQ 0)) (?PJ [o,rS B,?n])
   apply Cr (K:=K) (a:=P) (xs:=(?kY).map ?X) Bn4
    ?l1 (λi ys τ G _ hz=>by let#[_,_,_,R,_]:=hz;exact ?OE ?cP hP2) ?_ ?_
   . rintro i x ys τ G hx ⟨as,hal,rfl,R,o,rfl⟩;have hi:i<?rM:=?vS
     have hxv:x=?g (?wM):=by
      ext yP
     subst hxv
     have hmem:?wM∈?kY:=by
      rw[qa0,?gP];exact qf0 hi
     let ?CX:=Di hmem;generalize hpe:?wM=pl at q0 q1 q2;have Bf3:?QA pl=cK ?gV:=rfl;have sG:=?bD ?cP;apply#[_,rfl,_,rfl,λe he=>(?PS pl)];rw[Bf3]
     have e3:upd (?VW G e) e (?OG ?gV)=?oT:=by
      funext b
      by_cases hb:b=e
      . subst hb;rw[Ab,Ab]
      . ext sJ
     rw[e3];have g1:?QC G ?oT:=?y he;have he1:(?oT) e=?T0 ?gV:=Ab;generalize ?oT=G1 at g1 he1
     have xM:?A9<=4:=by
      rcases Lh (l:=xs) (i:=pl.toNat) (d:=[]) with z | z
      . exact h4 _ z
      . rw[z];exact ?b5
     have Zw:chainB xs k ?gV=true:=by
      unfold chainB Lg;rw[qx1,List.all_nil,Bool.and_true,qc3];apply#[?_,?aD];show(?I (0<=pl)&&?I (pl<?lJ)&&?I (Bs ?A9=k))=true;rw[qe1 q0,qe1 q1,qe1 q2];rfl
     have hk3:k<4:=by
      rw[←q2];unfold Bs;split<;>omega
     apply#[a,e,xs,?gV,rfl,?H (sG.trans g1) hL1,he1,?aD,h4,#[k.toNat,O9m,by rw[?B8];exact Zw],λE2 G2 hE2 g2 Bj2=>?_];apply#[B,E2,?jC,Bh xs ?gV,rfl,?OE ((sG.trans g1).trans g2) hB,?p Bj2,bl,λD2 G3 Xt g3 dH=>?_];have gG:=?QN ?eQ g3;apply#[gG _ _ R.at,?eD,?CD,?LC,?hR,?nH ((?eQ).free Xt) gG ?_,_,rfl];rw[dH,UX,hal,hpe]
     congr 3
     refine aX;intro i' _;exact Qc xs pl _
   . rintro ys τ G ⟨as,hal,rfl,R,_⟩;rw[qa2]at hal;exact ?OD #[D,as,rfl,hal,R.earlier s2]
 apply JR λC as H2 hal R=>?_;intro sq;apply#[_,rfl,_,rfl,B,_,rfl,?p (?OE ?cP hB),?d C,?rM,?rO,_,by rw[qa2];rfl,R.rep hal,cl,bl,λD jL H3 Ac3 R3=>?_];exact kq D jL H3 Ac3 (R3.earlier (?cU ?cP))
noncomputable abbrev Pi:Stmt:=Ev ?kM 2
def Jt:?SM [?aF,"height","by_rows","by_columns"] Pi:=Bg
def cQ[?u](F:Et K ?uY ?GU Pi f fd)[?t](Ua:Has P w K mg ?e ?rX ?sS 7 (?OH Wi))[?lS]:?T6 8 ES:=by
 apply ?OR Jt;let#[H0,p,L,R,nm,n,w,M,l,r,ns,Nx,rfl,x,ok,k]:=h;let ?o2:=x.sm;ext yV;ext z0
 ext sF
 let ?DF:=Hn hrep;let#[J1,T1,j10,j1t,j1n]:=ok.ex;have At8:=?sT
 replace hq:=?GI
 apply#[_,(Ag (Av (i:=1) Jt.nd ?kN)
  (Ag (?P1 Jt.nd (?SR Ua (Aa ?Y (Aa ?Y ?gY))))
  (Ag (?PG Jt.nd (?SR Ua (Aa (?WQ C6 (Aa ?e9 ?gY)) (Aa ?l ?gY))))
  (Ag (?OQ (?SR C6 (Aa (Ay ?bH ?z Al ?F) ?a8)))
  (Ag (?OQ ?e9)
  (Am (?OQ (?SZ ?z)))))))),?_]
 ext G
 apply ?O9 (?T4 [?v,?a6,none,none] ?cV)
 . apply#[_,rfl,p,Ah,dx,fs,_,rfl,hp,?E,?fE,l1,ta,us,rfl,?gC,?OD #[by rw[Zv];rfl,rfl]]
 ext bV;apply ?O9 (λσ' H'=>wG λ(tp D L' r1' XU:Addr) ?i3 ?xT ?v6=>EA (σ'=[?v,?a6,?aU,none]) ?aA (J1 n t s) (SqT K H' tp ?K3) (TA H' D as n w s.1) (?TV L' ?xC) (?TG L') (?TG r1') (?TG XU))
 . apply#[_,rfl,p,Ah,dx,fs,_,rfl,hp,?E,?fE,l1,_,rfl,p,Ah,dx,fs,_,rfl,hp,?E,?oA,l2,_,rfl,p,Ah,dx,fs,_,rfl,hp,?E,?g0,l3,?hV,L,r1,b1,?k,_,n,w,M,l.1,l.2,J1,rfl,At8,lx,sZ,SY,T1,j10,j1t,λtp D L' r' b' as t s H1 s1 hJ hT xD lx1 _ fL fr fb=>?_];exact ?OD #[tp,D,L',r',b',as,t,s,rfl,s1,hJ,hT,xD,lx1,fL,fr,fb]
 apply WI λtp D L' r1' XU as t s H1 s1 hJ hT xD lx1 fL fr fb=>?_;intro sq;let#[J2,T2,j20,j2t,j2n]:=j1n t s hJ;have hp1:=?k3;apply ?O9 (λσ' H'=>wG λ(YR D2 R' r2' tK:Addr) (jL:?iX) (t2:?M8) (s2:?eY)=>EA (σ'=[?v,?a6,?aU,rS YR]) ?nK (J2 w t2 s2) (SqT K H' YR [?eM,?d R']) (TA H' D2 jL w n s2.1) (LX H' Af R' r2' tK ?k w w (λx a=>s2.1 x (n+a),s2.2) ?p7) (H1 R'=none) (H1 r2'=none) (H1 tK=none))
 . apply#[_,rfl,tp,_,_,_,rfl,rfl,hT,rfl,_,rfl,p,Ah,dx,fs,_,rfl,hp1,?E,?oA,l2,?d D,n,w,s.1,rfl,xD.rep,O9m,O9m,λF fas H2 hl2 R2=>?_];have hp2:=?gD _ _ hp1;apply#[_,rfl,_,rfl,p,Ah,dx,fs,_,rfl,hp2,?E,?hJ,l4,?d F,R,r2,b2,?k,_,w,n,(λi j=>s.1 j i),r.1,r.2,J2,rfl,R2.rep hl2,ly.keep (?cU ?gD),SY,sZ,T2,j20,j2t,λYR D2 R' r' b' jL t2 s2 H3 s3 hJ2 hT2 xD2 ZW _ fR vJ fb2=>?_];exact ?OD #[YR,D2,R',r',b',jL,t2,s2,rfl,?nF s3,hJ2,hT2,xD2,ZW,?p0 fR,?p0 vJ,?p0 fb2]
 apply WI λYR D2 R' r2' tK jL t2 s2 H3 s3 hJ2 hT2 xD2 ZW fR vJ fb2=>?_;intro sq;have hp3:=s3 _ _ hp1;have hT3:=s3.seqT hT;apply#[_,rfl,YR,_,_,_,rfl,rfl,hT2,rfl,_,rfl,?eM,w,n,s2.1,rfl,xD2.rep,O9m,O9m,λE eas H4 xM R4=>?_];have UA:=R4.same;have Q0:=UA _ _ hp3;have wR:?BL:=((x.same.trans s1).trans s3).trans UA;have n4:=(?cU ?FL) _ _ x.nu;have Ba1:Rep K (T8 H4 ?AK) ?cE (dT n w λi j=>s2.1 j i):=R4.hid xM λa ha z=>by cases ha;rw[(?cU s3) _ _ x.nu]at z;cases z
 have hT4:=UA.seqT hT3;have Bi1:=UA.seqT hT2
 have ex:∀a,?A8->H4 a≠none:=λa ha=>by
  ext zB
  . rw[n4];ext lZ
  . let ?iN:=ZW.rw;exact ?D5
  . let ?iN:=ZW.bk;exact ?D5
 have z1:LX H4 Af L' r1' XU ?k n n ?xC (λa=>?A8):=lx1.more ?FL (λa ha=>by
  ext zB
  . exact ?p (?cD)
  . exact ?A vJ
  . exact ?A fb2) ex
 have z2:=ZW.keep UA;have uR:p≠L':=At hp fL;have WV:p≠R':=At hp1 fR;have LR:L'≠R':=λz=>by let ?B3:=lx1.ob;rw[z,fR]at q;cases q
 apply(?PY fs ?fE);have YV:?bP p H4 (?wN):=?fS;have gD:upd H4 p (?QH ?cE fs) p=?c (?QH ?cE fs):=Ab;have kp5:Kp H4 (?wN):=Kp.upd;have e1:?J2=fs.length:=Mw l1;generalize ?wN=H5 at YV gD kp5;have hT5:=jZ hT4 Q0 YV;have Bi0:=jZ Bi1 Q0 YV;apply#[_,rfl,tp,_,_,_,rfl,rfl,hT5,rfl,_,rfl,p,Ah,dx,_,rfl,gD,?E,?g0,O9m,?_];have e2:?KO=?J2:=Mw (x:=?d L) (by ext sC;exact l3);have EJ:?bP p H5 (?t6):=?fS;have hp6:upd H5 p (?N Ah dx (?OW fs)) p=?TY Ah (?OW fs):=Ab;have kp6:Kp H5 (?t6):=Kp.upd;generalize ?t6=H6 at EJ hp6 kp6;apply#[_,rfl,YR,_,_,_,rfl,rfl,jZ Bi0 gD EJ,rfl,_,rfl,p,Ah,dx,_,rfl,hp6,?E,?hJ,O9m,?_];have e3:(?J ?hN (?aB R') (?KW)).length=?KO:=Mw (x:=?d R) (by ext MZ;exact l4);have sx:?bP p H4 (?TT p):=?d6 (YV.trans EJ);have kp:Kp H4 (?TT p):=(kp5.trans kp6).trans ?c1;have g0:∀a,?hQ->?pO:=?RX x.same.free;have g1:∀a,?D1->?pO:=?RX ?xY;have npn:nm≠p:=Fh x.nu hp ?dA
 apply k L' R' _ _ _ _ (j2n t2 s2 hJ2) #[#[?d E,dx,_,Ab,?_,?_,?_,?_,?_,?g7,O9m,λM' e=>by
  cases e
  exact Bl0 (p:=p) (dx:=dx) (C:=Ah) Ba1 (by rw[Zy ?HS];exact Q0) (λa o ne e=>by
   by_cases z:a=nm
   . rw[MU z]at e;cases e
   . rw[Zy z]at e ⊢;exact sx _ _ ne e)],#[r1',XU,r2',tK,z1.x Q0 uR sx kp,z2.x Q0 WV sx kp,g0 _ fr,g0 _ fb,g1 _ vJ,g1 _ fb2],sx _ _ npn n4,sx.same wR x.fr.1,#[x.fr.1,g0 _ fL,g1 _ fR,?GW],?LR,?o2]
 . ext aG
 . ext aG
 . ext aG
 . ext aG
 . ext aG
 . iterate 3 ext NB
   exact l6 m hm
noncomputable abbrev Gr:Stmt:=top 83
def B4:?q [?R,?j0,?cK,?b0,"k",?i0,"edge",?dW,?fM,?vD] ?xE (As Gr):=Bg
def Qz[?u](F:Et K ?r7 ?r7 Gr f fd)[?t][?lT][?s4][?yX](Z1:Has P w K mg ?e ?mV ?u9 3 (eN K))[?s5][?NO]:?Q4 ?xE aN:=by
 apply ?OR B4;let#[a,h,l,Az,xs,q,lu,wu,hs,lf,rfl,hL,hh,bb,hl,dd,pk,hq,kq]:=h;have j8:=hr.u8;have sh:=pk.sh;have K6:=pk.len;have h4:=U2 sh;let#[hlc,hlb,hlm]:=pk.lc q hq
 have lv0:0<=?dH/\?dH<4:=by
  have:=(sh q (?uK) (by rw[qa0,qa1 hq];rfl)).cnt;unfold Bs;split<;>omega
 have KS:=?KP K6 hq;have hec:?RY (?dH-1) ?eV:=?zX sh K6 (by rw[?D2];exact KS);have hbc:?RY (?dH) (Bh xs (?mN q [])):=?zX sh K6 hlc;have wul:wu.length=xs.length:=?K1 pk.ll
 have QX:∀p∈?tM,?RY (?dH-1+1) (?GE)/\∀t∈?GE,?GO p.2 t.2:=λp hp=>by
  let#[a0,a1,a2]:=Di (hec.key p hp);let#[z1,_,z3]:=pk.lc ?MC O9m;rw[a2]at z1;have e2:(p.2).natAbs<=2:=by rw[←hec.ok.val hp];exact ?AC
  exact#[z1,λt ht=>?V0 (bY e2) (z3 t ht)]
 have hlo:?RY (?dH) (M4 lf ?eV):=by
  have:=Zn (xs:=xs) (k:=?dH-1+1) (lf:=lf) (c:=?tM) (acc:=[]) (λp hp=>(QX p hp).1) (ChL.nil ..);rw[?D2]at this;ext bX
 apply#[_,(Ag (?VZ ?dS (?SR Db (?W2 ?iJ)))
  (Ag (?WM ?dS (?OJ ?z))
  (Ag (Av (i:=6) ?dS (?SR Fi (Aa ?j ?dX)))
  (Ag (Av (i:=7) ?dS (?SR P1 (Aa (?WQ Fi (?OC ?j (Ay ?a0 ?o ?z ?F))) (?W2 (?WQ Z1 (Aa ?o ?jP))))))
  (Ag (?WB (Cg (K:=K) (?OK ?l ?S)) (?VC (?WQ P0 (Aa ?hM ?dX))))
  (Ag (Av (i:=9) ?dS (M3 (?OS KI ?S) (?OK ?l (?WS N4 ?S)) ?eI))
  (Ag (?WB (?ON Cg ?eW) (Cl (?OS Jb ?hM) (Am (?VC (Bk cO (?WQ P0 (Aa ?hM ?jP)) ?hM))) Bv))
  (?V5 (D8 (ZI (n:=8) j8) ?bM ?aZ ?w))))))))),?_]
 ext G
 unfold Nz jW at kq;generalize ekk:?dH=kk at lv0 hlc KS hec hbc QX hlo kq;let#[u1,v1,hu1,av1,tv1]:=?w0 hL (show ?aO<=?h3 by omega) (show ?h3<?lJ by omega);rw[qd6]at tv1;apply ?O9 (λσ' H'=>?VH none/\?cV)
 . apply#[_,rfl,_,rfl,a,u1,_,_,rfl,rfl,hu1,av1,v1,?FA,rfl,?A tv1,?_];rw[show(?FA).length=?DJ from ?wQ];apply ?OD #[?_,rfl];rw[ekk];rfl
 ext bV;apply ?O9 (λσ' H'=>Dx λ ?vL=>Bw (?VH ?hI) (?tI) ?aA (?VF d ?d4))
 . apply λd hd=>(?PS ?h3)
   have e3:?UE (?t7) ?h3=upd H d (?OG ?d4):=by
    funext b
    by_cases hb:b=d
    . subst hb;rw[Ab,Ab];rfl
    . ext sJ
   rw[e3];exact ?IZ
 apply Mm λd H1 nd1 s1 hd=>?_;intro sq;apply ?O9 (λσ' H'=>Dx λ(e:Addr)=>Bw (σ'=(?TJ none none)) (?TG e) ?nK (?VF e ?eV))
 . exact#[_,rfl,_,rfl,a,d,xs,_,rfl,?f0,hd,?aD,h4,#[?F3,O9m,by rw[?vU];exact KS.chain],λe H2 ne s2 he=>?OD #[e,rfl,?gH ne,s2,he]]
 apply Mm λe H2 nee s2 he=>?_;intro sq;have s12:=?eE;apply ?O9 (λσ' H'=>Dx λ ?jR=>Dw (σ'=(?TJ ?eC none)) ?jD (?VF t (?sN)))
 . obtain⟨vw,hvw⟩:∃v,wu[q]?=?dQ:=?lI
   let ?JU:=dd.2 q vw hvw;have hat:dX wu ?h3=?QG c1:=Bp hvw;apply#[_,rfl,_,rfl,_,rfl,l,wu,_,_,rfl,rfl,?OE s12 hl,hat,a,c1,xs,_,rfl,?E2,s12 _ _ hc1,?QY hlc.ok.len,h4,hlb,λX H3 nX s3 hX=>?_];apply#[_,rfl,_,rfl,l,e,H,xs,?hG,wu,lf,_,rfl,hl,dd,?uZ,nee,s3 _ _ he,hec,pk.ll,K6,QX,λY H4 nY s4 hY=>?_];exact#[X,Y,_,_,rfl,?QZ s4 hX,hY,?QY hbc.ok.len,?QY hlo.ok.len,λZ H5 nZ s5 hZ=>?OD #[Z,rfl,?pV s5,hZ]]
 apply O0 λt H3 s3 ht=>?_;intro sq;have ht0:?RY kk (?sN):=hbc.plus hlo;generalize ?sN=t0 at ht ht0 kq;have yY:=?uZ;obtain⟨va,hva⟩:∃v,lu[kk.toNat]?=?dQ:=?AE
 obtain⟨ps,hps⟩:∃ps,hs[kk.toNat]?=?kC:=?tB
 let#[l1,us1,rfl,hl1,pa1]:=bb.2 _ _ _ hva hps;let#[pl1,_,PZ]:=?J4;have ul1:=pa1.1;have egs:?wD ?F3 []=ps:=?zK
 rw[?vU]at PZ;rw[egs]at kq
 have Bh7:dX lu kk=?c (?lO):=by
  have:=Bp hva
  rwa [?vU]at this
 apply ?O9 (λσ' H'=>F1 λ ?jR ?qZ=>Bw (σ'=?CS) (?UH H3) (?VF t (?vP)) (ChL xs kk (?vP)))
 . let Bn3:?aN:=λi σ G=>F1 λ ?jR ?qZ=>Bw (σ=?CS) (?h H3 G) (G t=?T0 (?VN i)) (?RY kk (?VN i))
   apply#[_,rfl,_,rfl,h,lu,_,_,rfl,rfl,?OE yY hh,Bh7,l1,rfl,#[_,?OE yY hl1],?oH (K:=K) (a:=l1) (xs:=us1) Bn3 #[t,?k,rfl,?qB,ht,ht0] (?U2 (?yH g) hl1) ?_ ?_]
   . rintro i v σ G hv Ea
     ext aH
     revert σ;ext sA;let ?tD:=pa1.get hv;have EB:=PZ p ?nV;let(?RN tt):=pa;have gz:=?yH g;have zM:ga≠d:=λz=>by rw[z,nd1]at rL;cases rL
     have Z9:?VN ?aT=?qG (?VN i) (?t0 (wI ?gQ ?d4) p.2.1):=by
      unfold Te;rw[qf8,hp,qm7];rfl
     have Bh1:=?KT (?DO (wI ?gQ ?d4));apply#[_,rfl,_,rfl,tt,_,_,_,rfl,rfl,?OE gz VL,rfl,_,rfl,ga,d,_,_,rfl,gz _ _ rL,?QZ (?bD (?fX g)) hd,zM,?BA,?OO EB.m2 (bY (aV _ _)),?g2];have gz2:=?EG g2;apply#[_,rfl,tt,_,_,_,rfl,rfl,?OE gz2 VL,rfl,_,ra,_,rfl,gz2 _ _ e10,?QY EB.c1.ok.len,λy hy=>Jd (m:=110) (n:=101) (OR (aV _) EB.m2 ?yF 1).1 (Td (EB.m1 y hy)) ?M,?F1];apply(?TO ?DO);ext NG
     . rw[hZ,Z9]
     . rw[Z9];exact Bh1
   . ext bN;ext sA;rw[ul1,qe7]at tE hch;exact ?OD #[t,o8,rfl,g,tE,hch]
 apply oQ λt o8 H4 s4 ht4 hc4=>?_;intro sq;generalize ?vP=t1 at ht4 hc4 kq;have pJ:=?yH s4;apply ?O9 (λσ' H'=>F1 λ(bl:Addr) (ub:?e4)=>G9 ?E6 (?UH H4) (SqL K H' bl ub) (Mj Az H ub (?iL)) ((?iL).length<=40) (∀p∈?iL,JO xs (?hG) p))
 . ext sB;ext a2
   . have h2:0<kk:=?C
     obtain⟨vb,hvb⟩:∃v,lu[?sU]?=?dQ:=?AE
     obtain⟨pb,hpb⟩:∃ps,hs[?sU]?=?kC:=?tB
     let#[l2,WL,rfl,hl2,pa2]:=bb.2 _ _ _ hvb hpb;let#[pl2,_,pZ]:=pk.ok _ _ hpb;have eb:?iL=pb:=by unfold Qd;rw[?q4,qa0,hpb];rfl
     rw[?KZ]at pZ
     have Bh6:dX lu (?hG)=?QG l2:=by
      have:=Bp hvb
      rwa [?KZ]at this
     apply#[_,rfl,_,rfl,_,_,rfl,rfl,h,lu,_,_,rfl,rfl,?OE pJ hh,Bh6,?_];apply ?OD #[l2,WL,rfl,?qB,.of (pJ _ _ hl2),?_,?_,?_]
     . rw[eb];exact pa2
     . rw[eb];exact pl2
     . rw[eb];exact pZ
   . have h2:¬0<kk:=?C
     have eb:?iL=[]:=?n5;apply#[?b5,?W];apply ?OD #[D,[],rfl,?bK,?bO,?_,?_,?_]
     . rw[eb];exact#[rfl,λi v p z=>?wY]
     . rw[eb];exact ?b5
     . rw[eb];exact λp hp=>nomatch hp
 apply OO λbl ub H5 s5 hbl pb pbl okb=>?_;intro sq;generalize ?iL=qs at pb pbl okb kq;have ubl:=pb.1;have pI:=pJ.trans s5;apply ?O9 (λσ' H'=>F1 λ ?jR ?qZ=>Dw ?E6 (?UH H5) (?VF t (Wb ?eV t1 qs)))
 . let Bn2:?aN:=λi σ G=>F1 λ ?jR ?qZ=>Bw (σ=?AW) (?h H5 G) (G t=?T0 (?n2)) (?RY kk (?n2))
   apply#[_,rfl,bl,rfl,#[_,hbl],?oH (K:=K) (a:=bl) (xs:=ub) Bn2 #[t,o8,rfl,?qB,s5 _ _ ht4,hc4] (λi σ G _ hz=>by let ?x7:=hz;exact g.seq hbl) ?_ ?_]
   . rintro i v σ G hv Ea
     ext aH
     revert σ;ext sA;let ?tD:=pb.get hv;have EB:=okb p ?nV;let#[tt,ra,ga,fa,rfl,et9,e19,e29,e39,aA,bA]:=pa;have gq:=?tP g;have VL:=gq _ _ et9;have rL:=gq _ _ e29;have e30:=gq _ _ e39
     have Z9:Wb ?eV t1 (qs.take ?aT)=if ?kX then ?n2 else ?qG (?n2) (?t0 (wI ?gQ ?eV / p.1) ?eL):=by
      unfold Wb;rw[qf8,hp,qm7];rfl
     apply#[_,rfl,tt,_,_,_,rfl,rfl,.of VL,rfl,rfl,_,rfl,?_];ext a2
     . have h2:¬?kX:=?C
       have p0:0<p.1:=by have:=EB.od;omega
       rw[?n5]at Z9;have hc3:?RY kk ?eL:=by have:=EB.c3;rwa [show ?hG+1=kk by omega]at this
       have zM:ga≠e:=λz=>by rw[z,nee]at e29;cases e29
       have heG:=(?pV (?BZ g)) _ _ he;apply#[_,rfl,_,rfl,tt,_,_,_,rfl,rfl,.of VL,rfl,_,rfl,ga,e,_,_,rfl,rL,?p heG,zM,?BA,?OO EB.m2 (bY (?AC)),?g2];apply#[_,rfl,tt,_,_,_,rfl,rfl,?OE g2 VL,rfl,_,_,rfl,rfl,#[p0,EB.o30],?_];apply#[_,rfl,tt,_,_,_,rfl,rfl,?OE g2 VL,rfl,_,fa,_,rfl,g2 _ _ e30,?QY EB.c3.ok.len,λy hy=>Jd (m:=110) (n:=101) (OR (Uc sh _) EB.m2 ?yF p.1).2 (Td (EB.m3 y hy)) ?M,?F1];apply(?TO hc3.times);ext NG
       . rw[hZ,Z9]
       . rw[Z9];exact ?KT (hc3.times _)
     . have h2:?kX:=?C
       rw[?q4]at Z9;exact#[t,_,rfl,g,by rw[Z9];exact tE,by rw[Z9];exact hch]
   . ext bN;ext sA;rw[ubl,qe7]at tE;exact ?OD #[t,o8,rfl,g,tE]
 apply JR λt o8 H6 s6 ht6=>?_;intro sq;have hd6:=(?bD (?pV (?BZ s6))) _ _ hd;exact#[_,rfl,_,rfl,t,d,_,_,rfl,rfl,?p ht6,?p hd6,kq H6 (?tP s6)]
noncomputable abbrev Hi:Stmt:=Ev ?kM 1
def Ko:?SM ?jX Hi:=Bg
def Sj[?u](F:Et K ?tU ?B7 Hi f fd)[?t](Li:Ka P w K mg ?e Ah ?uY ?cC 8 (?OH ES))(Oe:Has P w K mg ?e ?DT [?a5] 1 (On K)):?T6 9 Pa:=by
 apply ?OR Ko;let#[H0,p,L,R,nm,n,w,M,l,r,U,rfl,x,ok,nx,k]:=h;have sm:=x.sm;let#[_,dx,fs,hp,_,_,_,_,_,l6,_]:=x.ob
 apply#[_,(Ag (?RL ?j Li)
  (Ag (Ts qd1 (?OL Oe ?gY) (Am (?RL ?j Li)))
  (Am (C4 qd1 rfl (?PC (?W2 (Aw (nV ?f) T.n_min oA (Aa ?kN ?gY)))) (?SP 1 Ko.nd) (Am (Cl (?WL Jb (?OK ?c8 ?l)) (Am (?VB ?Y (?OK ?c8 ?l))) Bv)))))),?_]
 ext G
 apply ?O9 (λσ' H'=>?pH/\∃L R m M l r,?x6/\?zI)
 . exact#[_,rfl,p,dx,fs,rfl,hp,?FU,H0,p,L,R,nm,n,w,M,l,r,[],_,rfl,x,ok,λL' R' M' l' r' H' #[m,hu] y=>?OD #[rfl,L',R',m,M',l',r',hu,y]]
 apply Ha λH1 EE=>?_;intro sq;let#[L,R,m,M,l,r,hU,x]:=EE;clear ok hp l6;apply ?O9 (λσ' H'=>?pH/\∃L R m M l r,?x6/\Lat.Straight n w M/\?zI)
 . apply#[λm σ' G=>?pH/\∃L R M l r,?x6/\?TA G,#[m,rfl,L,R,M,l,r,hU,x],?_];rintro m σ G Ea;apply uZ ?_;intro _;let#[rfl,L,R,M,l,r,hU,x]:=Ea;ext yV
   ext sF
   apply#[_,rfl,p,Ah,dx,fs,_,rfl,hp,?E,?fE,l1,tv,n,w,M,rfl,?sT,O9m,O9m,?IM,?IM]
   . ext cX;exact ?OD #[rfl,L,R,m,M,l,r,hU,hS,?LJ]
   . apply mT (?aD) ?_;apply#[λσ' G'=>?pH/\∃L R m' M l r,m'<m/\U m' M l r/\?TA G',?_,?_]
     . rintro σ' G' ⟨rfl,L,R,m',M,l,r,hm,hU,y⟩;exact#[m',hm,rfl,L,R,M,l,r,hU,y]
     . exact#[_,rfl,p,dx,fs,rfl,?k3,?FU,H0,p,L,R,nm,n,w,M,l,r,[],_,rfl,?LJ,nx m M l r hU hS,λL' R' M' l' r' H' #[m',hm,hu] y=>#[rfl,L',R',m',M',l',r',hm,hu,y]]
 ext zD;let#[L,R,m,M,l,r,hU,hS,x]:=EE;ext yV
 ext sF
 let ?AZ:=Hn hrep
 replace hq:=?GI
 have emin:?EE=min n w:=?wK
 apply#[_,rfl,p,Ah,dx,fs,_,rfl,hp,?E,?fE,l1,ta,us,rfl,?gC,_,rfl,p,Ah,dx,fs,_,rfl,hp,?E,?oA,l2,_,_,rfl,_,rfl,?wK,?wK,?_];apply Eh (lo:=0) (n:=?EE) (λi σ' G=>Dx λo1=>σ'=?JL/\WX K Af Ah H0 G p L R nm n w ?rN l r (oH i M)) ?G6 ?_ ?_
 . clear hp hrep hq Oc l1 l2 l3 l4 l5 l6 l7;rintro i σ G hi ⟨o1,rfl,y⟩;rw[emin]at hi;rw[qk8];let ?IV:=y.ob
   ext sF
   let ?AZ:=Hn (?sT);have e:=qa1 (l:=us) (i:=i) O9m;let#[_,b,eb,hb]:=Oc i _ e;rw[eb]at e;apply#[_,rfl,p,Ah,dx,fs,_,rfl,hp,?E,?fE,l1,_,rfl,ta,_,_,_,rfl,rfl,hq,Bp e,_,rfl,b,_,_,_,rfl,rfl,hb,?rH,rfl,_,rfl,?_];ext a2
   . have h0:¬M i i=0:=?C
     apply#[_,rfl,p,Ah,dx,fs,_,rfl,hp,?E,?eR,l5,?OZ y.nu,_,rfl,p,Ah,dx,fs,_,rfl,hp,?E,?fE,l1,_,rfl,ta,_,_,_,rfl,rfl,hq,Bp e,_,rfl,b,_,_,_,rfl,rfl,hb,?rH,nm,_,_,rfl,rfl,y.nu,?_,?_]
     . have:=uQ i M;exact ?eD
     . have z:=y.num (ns':=oH ?aT M);rw[Ps,?aK h0,qb0]at z;exact#[_,rfl,by rw[Ps,?aK h0];exact z]
   . have h0:M i i=0:=?C
     exact#[_,rfl,by rw[Ps,?bG h0];exact y]
 . ext bN;ext zE;rw[emin]at y;exact k L R m M l r _ hU hS y
noncomputable abbrev Hh:Stmt:=top 82
def E7:?q [?R,"k",?j0,"edges","i",?fM] ?tG (As Hh):=Bg
def Si[?u](F:Et K ?o6 ?o6 Hh f fd)[?t][?s4][?lQ](Vx:Has P w K mg ?e ?nT ?h4 8 (Wg K))[?s5][?NC][?NO]:Bz P w K mg ?e Eo 9 f fd ?tG (aO K):=by
 apply ?OR E7;let#[a,l,Az,xs,k,us,ps,rfl,hL,hsh,mU,hl,pp,pl,ok,kq]:=h;have j8:=hr.u8;let#[hs,K6]:=hsh;have h4:=U2 hs;have ul:=pp.1;have pll:?wX<=40:=?qQ
 apply#[_,(Ag (cI (N':=[?b0,?R]) (cap:=?tW) (i:=3) E7.nd ?f ?pX ?f ?P (Cg (K:=K) (?SR Bl (?OC ?j (?VD ?l)))) (?OB (?SP 0 zN)) ?V (?OB (?SR Fi (?VI ?l))))
  (Ag (C4 qd1 rfl (?P2 ?aI) (?OA (?SP 4 E7.nd) (?SP 5 E7.nd)) (Ag (?W1 ?c3 (Oo (Df (C9 (?SR Vx (?OC ?j ?c2)))) (Nv (Bo (zH (n:=8) j8) (?SR Fi (?OC ?j ?c2)) (?SR Ih (?OC ?c2 ?c2)) ?w))))
  (Ag (Cl (Df (C9 (Aw ?bZ ?cA Ei (Aa (Bt (N':=["j",?dK,?fM,"i"]) (cap:=[none,none,?c 5,?c 4]) ?f ?P (?P2 ?aI) (?SO QE QE) ?V (?OB (D8 Dy (?SR P0 (?WI ?e9 ?d3)) (M3 (Bo Dy ?j ?z ?w) Al Al) ?w))) Ac)))) ?aQ Bv)
  (Am (?W1 Df (?V4 C9 (Bt (N':=["edge",?fM]) (cap:=[none,?c 5]) ?f ?P (?ON Cg ?z) (?OB (?SP 0 ZN)) ?V (?OB (?SR Fx (Aa (?WQ P0 (Aa ?d3 ?a4)) (Aa ?d3 Ac)))))))))))
  ?aQ)),?_]
 ext G
 apply ?O9 (λσ' H'=>F1 λ ?u0 (eu:?e4)=>Bw (σ'=[?n,?eG,?a1,rS E,none,none]) ?aA (?V9 E eu) (En H H' eu (?r2 ?kS)))
 . apply#[_,rfl,_,rfl,_,_,rfl,rfl,a,?fU,xs,rfl,hL,O9m,?AF];apply#[P,rfl,(?UW hP),?W]
   apply Cr (K:=K) (a:=P) (xs:=?r2 ?X) (λi ys τ G=>Bw ?lN ?c4 ((En H G ys (?CV ?kS))) (?PJ [o,?n]))
    (?R7 #[rfl,λi v z=>?wY]) (?SQ g hP) ?_ ?_
   . ext j3;ext b7;intro g Ct dd o Fv;rw[qb4]at hv;let#[q,hq,rfl]:=?fC hv;have hi:=?mQ;let ?CX:=Di ?mF;have yl:?jB:=by have:=dd.1;rw[qa2,qe2]at this;omega
     ext m1;apply λd hd=>(?PS q)
     have e3:?UE (?u8) q=?tL:=by
      funext b
      by_cases hb:b=d
      . subst hb;rw[Ab,Ab];rfl
      . ext sJ
     rw[e3];have s3:?QC G ?tL:=?l7;have hd3:upd G d (?OG [(q,1)]) d=?T0 [(q,1)]:=Ab;generalize ?tL=G3 at s3 hd3;have g3:=?l9 s3;apply#[a,d,xs,_,rfl,?EF,hd3,?aD,h4,#[k+1,?_,?_],λc G4 nc g4 hc=>?_]
     . have:=(hs q.toNat (?d8 q.toNat []) (by rw[qa0,qa1 ?jH];rfl)).cnt;unfold Bs at q2;split at q2<;>omega
     . have:=(?KP K6 (q:=q.toNat) O9m).chain;rw[show((q.toNat:Nat):Int)=q by omega,q2]at this;ext bX
     . have g34:=?fX g4;apply#[?BT,?bJ,?Q6 g34 hD,Ab,?_,_,rfl];have et:(?y6 ?aT).map (?kS)=?CV (?kS)++[?kH]:=by rw[qf8,hq,qb0];rfl
       rw[et];have uU:?hH:=λz=>by rw[z,?Q5 s3]at nc;cases nc
       have dd2:=(?nA g34).snoc (c:=c) (m:=?kH) (g3.free nc) hc
       exact dd2.keep λe kvs _ he=>by
        rw[Ak λz=>by rw[z,?BT]at he;cases he];exact he
   . rintro ys τ G ⟨g,Ct,dd,_⟩;rw[qa2,qe7]at dd;exact ?OD #[D,ys,rfl,?f5,Ct,dd]
 apply oQ λE eu H1 s1 hE de=>?_;intro sq;have eul:eu.length=?wX:=by have:=de.1;rw[qa2]at this;ext bX
 apply ?O9 (λσ' H'=>F1 λo4 o5=>Dw (σ'=?LH) ?aA (?A6=true))
 . let Bn1:?aN:=λi σ G=>F1 λo4 o5=>Dw (σ=?LH) ?lN (?QI i (Rb xs ?aC ps)=true)
   apply#[_,rfl,l,rfl,?GZ,Ub (K:=K) (a:=l) (xs:=us) Bn1 #[?k,?k,rfl,?qB,rfl] (?U2 (?f5) hl) ?_ ?_]
   . rintro i v σ G pr hv Ea qX
     ext aH
     revert σ;apply kQ ?_;intro o4 o5 g al Fv;ext yW;have pk:=?M1;have epd:ps.getD i dP=p:=by rw[qa0,hp];rfl
     have no:Rb xs ?aC ps i=false->?V3 ?A6:=λz=>by
      unfold F8;rw[qq2];intro y;have:=qd8.mp y i (qd0.mpr hi);rw[z]at this;cases this
     have sp:?QC G ?BN:=?uP;have hp1:upd G pr ?mP pr=?c ?mP:=Ab;generalize ?BN=G1 at sp hp1;have g1:=?l9 sp;let(?RN t):=pa;have et:=g1 _ _ VL;have e1:=g1 _ _ e10;have e2:=g1 _ _ rL;have e3:=g1 _ _ e30;ext yS;have l1:=pk.c1.ok.len;have l2:=pk.c2.ok.len;have l3:=pk.c3.ok.len;apply ?WA (λσ' H'=>Bw (?S2 E) ?pF (?C7) (?DN));ext cI
     . apply#[_,rfl,_,rfl,t,_,_,_,rfl,rfl,.of (et),rfl,a,ra,xs,_,rfl,?pP,e1,O9m,h4,#[k,mU,pk.c1.chain],λG2 g2=>?g8];ext a2
       . have h2:?S8 false:=?C
         apply ?u3;have:=no (by unfold Rb;rw[epd,h2];rfl);rw[this]at kq;exact kq G2 (?eQ)
       . have h2:?C7:=?C
         have OH:=?eQ;apply#[_,rfl,_,rfl,t,_,_,_,rfl,rfl,?OE g2 et,rfl,a,fa,xs,_,rfl,?H OH hL,g2 _ _ e3,O9m,h4,pk.b3,λX G3 nX g3 hX=>?_];have g23:=?jF;apply#[_,rfl,t,_,_,_,rfl,rfl,?OE g23 et,rfl,_,rfl,t,_,_,_,rfl,rfl,?OE g23 et,rfl,p.1,ra,_,rfl,g23 _ _ e1,O9m,λy hy=>?V0 pk.o101 (pk.m1 y hy),λY G4 nY g4 hY=>?_];apply#[X,Y,_,_,rfl,rfl,?QZ g4 hX,?p hY,_,rfl,?_];have g24:=g23.trans g4;apply ?zY
         . have h5:?V3 ?KL:=?nC
           have:=no (by unfold Rb;rw[epd,h2,h5];rfl);rw[this]at kq;exact kq G4 (?iB g24)
         . have h5:?DN:=?nC
           exact ?R9 #[rfl,g24,h2,h5]
     apply Al5 λG2 g2 b1 b2=>?_;intro sq;have g02:=?eQ;apply ?WA (λσ' H'=>Dw (?S2 E) ?pF (?JF));ext cI
     . apply#[_,rfl,l,rfl,#[_,?OE g02 hl],?W]
       let Bn0:?U:=λj ys τ G=>Bw (?h G2 G) ?c4 (ys=(?SN j ?i8).map ?bB) (?OX [o1,o2,?eC,?bS])
       apply Nf (K:=K) (a:=l) (xs:=us) Bn0
        ?lK (?U5 (?uH g) hl) ?_ ?_
       . rintro j w ys τ G3 pr2 hw Ea Bf1;revert τ;apply ?nB;intro g3 Ct yl o1 o2 Fv;let#[p2,hp2,pa2]:=pp.get hw;have hj:=(?g9 hp2).1;have pk2:=ok p2 (qb3 hp2);have Aw5:?xP=p2:=by rw[qa0,hp2];rfl
         have sp2:?QC G3 ?G0:=?y Bf1;have hq1:upd G3 pr2 (?x [?g j,w]) pr2=?c (?x [?g j,w]):=Ab;generalize ?G0=G4 at sp2 hq1;have g34:=?l4 sp2;let#[t2,ra2,ga2,fa2,rfl,et2,e12,_,_,aA2,_]:=pa2.same (?uH g34);have gz:=?HV g34;apply(?OU pr2 hq1);apply#[_,rfl,t,_,_,_,rfl,rfl,?OE gz et,rfl,_,rfl,t2,_,_,_,rfl,rfl,.of et2,rfl,ga,ra2,_,_,rfl,?HW,?p e12,λz=>bA (by rw[z];exact aA2),O9m,?OO pk.m2 (Td (gH pk2.m1 _)),?J8];apply#[_,rfl,_,rfl,rfl,_,rfl,?_]
         have fin:∀b:Bool,b=?I (wI ?gQ (?xP).2.1=?jT)->ys++[?bB b]=(?SN (j+1) ?i8).map ?bB:=λb hb=>by
          rw[qg6,qb0,qb0,←yl,hb];rfl
         have A79:?jB:=by rw[yl,qa2,qa2,qd9];omega
         have g35:=sp2.trans g5;ext a2
         . have h2:j=i:=by
            have:?iV=?a3:=?C
            omega
           ext MT;rw[?q4,Aw5];ext N1
         . have h2:¬j=i:=λz=>by
            have:¬?iV=?a3:=?C
            omega
           ext MT;rw[?n5,Aw5];ext N1
       . rintro ys τ G3 ⟨g3,Ct,yl,_⟩;subst yl;apply ?FO;rw[ul];have ea:(?SN ps.length ?i8).all id=?QI ps.length ?i8:=?u4
         rw[ea];ext a2
         . have h2:?V3 (?QI ps.length ?i8):=?C
           have:=no (by unfold Rb;rw[epd,h2,qw0,Bool.false_and]);rw[this]at kq;exact kq G3 (?uH g3)
         . have h2:?JF:=by
            have:¬(!((List.range ps.length).all λj=>decide (wI p.2.2.1 (ps.getD j dP).2.1=if j=i then 1 else 0)))=true:=h1;cases e:(List.range ps.length).all λj=>decide (wI p.2.2.1 (ps.getD j dP).2.1=if j=i then 1 else 0) with
            | true=>rfl
            | false=>rw[e]at this;exact ?fF rfl this
           exact ?R9 #[rfl,?jF,h2]
     apply AI λG3 g3 b3=>?_;intro sq;have g03:=?iB g3;have de3:=de.same (?QN ?jQ g3);have hE3:=(?QN ?jQ g3) _ _ hE;apply(?OY E (?UW hE3))
     let Bm9:?U:=λj ys τ G=>Bw (?h G3 G) ?c4 (ys=((?y6 j).map ?j8).map ?bB) (?PR [o1,?eC])
     apply Cr (K:=K) (a:=E) (xs:=eu) Bm9
      ?cN (?U5 g hE3) ?_ ?_
     . rintro j w ys τ G4 hw Ea;ext b7;intro g4 Ct yl o1 Fv;have hj:j<?wX:=by have:=(?g9 hw).1;omega
       let ?FW:=de3.2 j w hw;obtain⟨q,hq⟩:∃q,(?gU)[j]?=?dT:=#[_,qa1 hj]
       have eg:(?r2 ?kS).getD j []=?kH:=by rw[qa0,qb4,hq];rfl
       rw[eg]at hc;have gz:=?l4 g4
       have zM:ga≠c:=λz=>by
        rw[z,nc]at rL;cases rL
       have od0:0<=p.1:=by have:=pk.od;omega
       apply#[_,rfl,t,_,_,_,rfl,rfl,?OE gz et,rfl,_,rfl,ga,c,_,_,rfl,?HW,?QZ g4 hc,zM,O9m,?OO pk.m2 (bY (Uc hs q _)),?J8];apply#[_,rfl,t,_,_,_,rfl,rfl,?OE (?EG g5) et,rfl,_,p.1,rfl,od0,?_];have A79:?jB:=by rw[yl,qa2,qa2,qe2];omega
       apply#[?Q5 g5,?bJ,?RB ?qM,Ab,?_,_,rfl];rw[yl,qf8,hq,qb0,qb0];rfl
     . rintro ys τ G4 ⟨g4,Ct,yl,_⟩;subst yl;apply ?FO;rw[eul,qe7];have ea:(?r2 ?j8).all id=(?gU).all ?j8:=?u4
       rw[ea];ext a2
       . have h2:?V3 ((?gU).all ?j8):=?C
         have:=no (by unfold Rb;rw[epd,h2,qw0]);rw[this]at kq;exact kq G4 (g03.trans g4)
       . have h2:((?gU).all ?j8)=true:=by
          cases e:(Da xs ((k:Int)+1)).all λq=>decide (p.1∣wI p.2.2.1 (Bh xs [(q,1)])) with
          | true=>rfl
          | false=>rw[e]at h1;exact ?fF rfl h1
         apply#[_,_,rfl,(?QN ?jQ g3).trans g4,?_];rw[qg6,List.all_append,al];show(true&&([i].all (Rb xs ?aC ps)))=true;rw[Bool.true_and,qx1,List.all_nil,Bool.and_true];unfold Rb;rw[epd,b1,b2,b3,h2];rfl
   . ext bN;apply kQ ?_;intro o4 o5 g al Fv;rw[ul]at al;exact ?OD #[_,_,rfl,?f5,al]
 apply JR λo4 o5 H2 s2 al=>?_;intro sq;rw[al]at kq;exact kq H2 s2
noncomputable abbrev Sa:Stmt:=top 62
def Lc:?q [?a5,?b3,"work","left_back",?hN] ?gO (As Sa):=Bg
def fO[?u](F:Et K ?r8 ?r8 Sa f fd)[?t](dF:GZ P w K mg ?e Ah ?m8 3 (?OH eT))(Hk:Ka P w K mg ?e Ah ?tU ?cC 9 (?OH Pa))(F9:Ka P w K mg ?e Ah ?t1 ?cC 5 (?OH aS))[?lS](Vv:Has P w K mg ?e ?rK ?oR 3 (Wf K)):?S4 ?gO Tm:=by
 apply ?OR Lc;let#[v,n,w,A,Fin,rfl,hv,hn,hw,hP,k]:=h;let ?DF:=?jZ;let#[U,Y,a1,a2,a3,a4,a5]:=hP.ex
 apply#[_,(Ag (?UR Vv ?b6)
  (Ag (?P1 Lc.nd (M1 dF hr ?f T.m_Work ?b6))
  (Ag (?RL ?o Hk)
  (Ag (?RL ?o F9)
  (Ag (Av (i:=3) Lc.nd (?SR C6 (?OC ?pM ?fA)))
  (Ag (?VZ Lc.nd (?SR C6 (Aa ?pM ?a8)))
  (?V5 (Fq (Aa (?ON Bb ?o) (Aa ?pM (Aa ?z (?OC ?S ?pM)))))))))))),?_]
 ext G
 apply qy5 (t:=?v5) (?T4 [?dP,?cQ,none,none,none] ?g3) ?i ?_
 . apply#[_,rfl,_,rfl,?hV,n,w,A,rfl,hv,hn,O9m,?oX];ext cX;exact ?oL
 ext j2;apply ?O9 (λσ' H'=>Xy λp L R nm=>?TD ?v/\WX K Af Ah H1 H' p L R nm n w (?c A) ?eB ?eB [])
 . apply#[_,rfl,_,rfl,?_];intro p dx np wW ZL;have sN:?h H1 (upd (upd H1 dx (.own p)) p (?N Ah dx [])):=?oP np;exact#[H1,p,dx,?hV,n,w,A,rfl,sN,np,Ab,?H s1 hv,O9m,hw,λL R nm H' y=>#[rfl,?OD #[p,L,R,nm,rfl,y]]]
 apply Ak9 λp L R nm H2 x=>?_;intro sq;apply ?O9 (λσ' H'=>Ex6 λL R k f l r=>Er (?TD ?v) (k<=n) (k<=w) (Y k 0 f l r) (WX K Af Ah H1 H' p L R nm n w ?k l r (Ie k f)))
 . ext lR;apply#[_,rfl,p,iZ,IW,rfl,hpa,?KJ,H1,p,L,R,nm,n,w,A,_,_,U,rfl,x,a1,a2,λL' R' m M l r H' hU hS y=>?_];let#[k,f,e,k1,k2,hY]:=a3 m M l r hU hS;rw[e]at y;exact ?OD #[L',R',k,f,l,r,rfl,k1,k2,hY,y.drop]
 apply Ak6 λL R kk f l r H3 k1 k2 hY x=>?_;intro sq;apply ?O9 (λσ' H'=>Ut λf l r=>Bw (?TD ?v) (Fin kk f l r) (?DK kk kk f) (WX K Af Ah H1 H' p L R nm n w ?k l r (Ie kk f)))
 . ext lR;apply#[_,rfl,p,iZ,IW,rfl,hpa,?KJ,H1,p,L,R,nm,n,w,kk,l,r,f,Y kk,rfl,x,k1,k2,hY,a4 kk,λd f' l' r' H' hY' hC y=>?_];exact ?OD #[f',l',r',rfl,a5 _ _ _ _ _ hY',hC,y]
 apply oO λf l r H4 hF hC x=>?_;intro sq;ext lR;ext z0;let#[dl,fl,hL,e1,e2,_]:=lx.ob;let#[dr,fr,hR,e3,e4,_]:=ly.ob;let#[xV,xa1,_]:=lx.rw;let#[bs1,xb1,_]:=lx.bk;let#[jL,xa2,_]:=ly.rw;let#[bs2,tN,_]:=ly.bk;have pJ:=x.same;apply#[_,rfl,p,Ah,iZ,IW,_,rfl,hpa,?E,?g0,zY,L,Af,dl,fl,_,rfl,hL,?d9,?qR,e2,_,rfl,ta,us,rfl,?p ((?cU pJ).seq hq),?d b1,n,n,l.2,(by rw[Zv]<;>rfl),xb1.rep,O9m,O9m,λD1 c1 H5 hc1 R1=>?_];have pI:=R1.same;apply#[_,rfl,p,Ah,iZ,IW,_,rfl,(pI _ _ hpa),?E,?hJ,l4a,R,Af,dr,fr,_,rfl,(pI _ _ hR),?d9,?q0,e3,_,rfl,?d r2,w,w,r.1,rfl,(xa2.same pI).rep,O9m,O9m,λD2 c2 H6 hc2 R2=>?_];have s46:=?tP ?gD;apply#[_,rfl,p,Ah,iZ,IW,_,rfl,(s46 _ _ hpa),?E,?eR,xH,_,rfl,p,Ah,iZ,IW,_,rfl,(s46 _ _ hpa),?E,?g0,zY,L,Af,dl,fl,_,rfl,(s46 _ _ hL),?d9,?q0,e1,_,rfl,_,rfl,_,rfl,p,Ah,iZ,IW,_,rfl,(s46 _ _ hpa),?E,?hJ,l4a,R,Af,dr,fr,_,rfl,(s46 _ _ hR),?d9,?qR,e4,?a9,?IO];have s67:?h H6 (upd H6 tp (?x [?d nm,?d r1,?f1,?eM,?d b2])):=?y htp;have yX:=s46.trans s67;have A96:=(?cU pJ).trans yX;have g1:∀a,?D1->?hQ:=?RX ?gH;apply k tp nm r1 D1 D2 b2 kk f l r _ hF hC k1 k2 #[A96,?bO,?CY,(xa1.same yX).rep,(R1.later ?HE).rep hc1,(R2.later s67).rep hc2,(?uX yX).rep,?cF];rcases ha with rfl | rfl | rfl | rfl | rfl
 . exact#[g1 _ ?GW,_,?CY,?wR]
 . exact#[g1 _ f1,_,yX _ _ xa1.2.1,by rw[qa2,xa1.1];omega]
 . exact#[g1 _ (pJ.free ?qY),_,?HE _ _ R1.at,by rw[qa2,hc1];omega]
 . exact#[g1 _ (pJ.free (pI.free ?pK)),_,s67 _ _ R2.at,by rw[qa2,hc2];omega]
 . exact#[g1 _ f4,_,yX _ _ tN.2.1,by rw[qa2,tN.1];omega]
noncomputable abbrev Nr:Stmt:=top 77
def m8:?q ?nX ?nX (As Nr):=Bg
def v4[?u](F:Et K ?nD ?nD Nr f fd)[?t](Sl:Has P w K mg ?e ?n4 ?gT 6 (AO K))(Hl:Has P w K mg ?e ?r7 ?xE 8 (aN K))(Sm:Has P w K mg ?e ?mU ?c7 7 (aP K))(Ij:Has P w K mg ?e ?o6 ?tG 9 (aO K)):?S4 ?nX EO:=by
 apply ?OR m8;let#[a,h,l,Az,xs,lu,wu,hs,lf,rfl,hL,hh,bb,hl,dd,pk,kq]:=h;ext sG;have lul:lu.length=4:=bb.1.trans pk.n4;have K6:=pk.len;let ?FI:=?jN
 apply#[_,(Ag (?W1 ?c3 (Oo (?OL Sl (Aa ?j ?aI)) (?WJ (?VA 4))))
  (Ag (?W1 Df (?V4 C9 (?WE Sm)))
  (Ag (?W1 Df (?V4 C9 (?WE Ij)))
  (Am (?V4 Be (Bt (N':=[?b0,?R,?j0,?cK]) (cap:=[none,?gX,?h6,?p8]) ?f ?P (?PC (?W2 ?fA)) (?OB (?SP 0 ZO)) ?V (?OB (?SR Hl (?WK ?o (Aa ?z ?a4)))))))))),?_]
 ext G
 ext MV
 have lev:∀{k:Nat}{v:V},lu[k]?=?dQ->k<4/\∃(l1:Addr) (u1:?e4) (ps:?vQ),v=?lO/\?DR/\H l1=?SX u1/\Mj Az H u1 ps:=λ{k v} hv=>by
  have hk:=?fV;obtain⟨ps,hps⟩:∃ps,?DR:=?tB
  let#[l1,u1,e,h1,h2]:=bb.2 _ _ _ hv hps;exact#[O9m,l1,u1,ps,e,hps,h1,h2]
 ext MW
 . apply#[_,rfl,_,rfl,a,l,xs,wu,lf,rfl,hL,K6,hl,dd,pk.ll,λi hi=>#[(?zG).1.ok.len,(?zG).1.chain],?oX];ext dN;apply(?Q2 h ?BI);ext dN;apply#[_,rfl,h,_,rfl,?p (?KY),rfl,_,rfl,?_];apply Oz (by rw[lul];simp) ?_;exact ?oL
 ext j2;ext MW
 . apply(?OY h #[_,?KY])
   let Bm8:?U:=?U6 ?lN ?m4
   apply Nf (K:=K) (a:=h) (xs:=lu) Bm8
    ?lK (?SQ (?f5) hh) ?_ ?_
   . ext MF;have g1:=?l9 sp;ext yS;apply#[_,rfl,_,rfl,_,rfl,a,l1,Az,xs,?a3,u1,ps,rfl,?pP,?L7,?o8 g1,pl,ok,nx,?g2];apply#[?xA,?mL,?Q6 (?kI g2) hD,Ab,?_,_,_,rfl];ext j5
   . ext sD;apply#[D,?b1 ?JM ?fG,rfl,?f2,_,rfl,?_];ext cX;exact ?OD #[rfl,?f5]
 apply Ha ?wC;intro sq;apply ?O9 (λσ' H'=>Dw (σ'=[?n,?eA,?a1]) ?aA (?GT))
 . apply#[_,rfl,h,rfl,#[_,?OE s2 hh],?W]
   let Bm7:?U:=?U6 (?h H2 G) (ys=(?l6 ?kK).map ?bB)
   apply Nf (K:=K) (a:=h) (xs:=lu) Bm7
    ?lK (?SQ (?jL) hh) ?_ ?_
   . ext MF;have g1:=?A1 sp;have eps:?wD i []=ps:=?zK
     ext yS;apply#[_,rfl,_,rfl,_,rfl,a,l1,Az,xs,i,u1,ps,rfl,?pP,#[pk.sh,K6],hi,?L7,?o8 g1,pl,ok,?g2];apply#[?xA,?SH ?cB,?Q6 (?kI g2) hD,Ab,?_,_,_,rfl];rw[qg6,qb0,qb0,←eps];rfl
   . ext sD;apply#[D,?SN ?JM ?kK,rfl,?f2,_,rfl,?_];rw[lul,qq5];ext a2
     . have h2:?V3 (?QI 4 ?kK):=by
        cases e:(List.range 4).all λk:Nat=>F8 xs (k:Int) (hs.getD k []) with
        | false=>rfl
        | true=>exact ?fF (show ?CP from h1) (by rw[e];decide)
       have:?V3 ?H9:=by unfold Vf;rw[h2];rfl
       rw[this]at kq;exact kq G (?jL)
     . have h2:?GT:=by
        cases e:(List.range 4).all λk:Nat=>F8 xs (k:Int) (hs.getD k []) with
        | true=>rfl
        | false=>exact ?fF (show ?CP by rw[e];rfl) h1
       exact ?OD #[rfl,?jL,h2]
 apply AI λH3 s3 al=>?_;intro sq;apply#[_,rfl,a,us,rfl,?p (s3.seq hq),_,rfl,O9m,O9m,?W];rw[usl,qd6]
 let Bm6:?U:=λi ys τ G=>Bw (?h H3 G) ?c4 (ys=(?l6 (?u6)).map ?bB) (?PR [o1,?n,?eA,?a1])
 apply Ik (lo:=0) (n:=xs.length) Bm6
  ?cN ?_ ?_
 . rintro i ys τ G hi Ea;ext b7;intro g Ct hz1 o1 Fv;subst hz1;ext s8;have g3:=?fX g;apply#[_,rfl,_,rfl,_,rfl,_,rfl,a,h,l,Az,xs,i,lu,wu,hs,lf,rfl,?EF,g3 _ _ hh,bb.same g3,g3 _ _ hl,?nA g3,pk,hi,?g2];apply#[?mA,?SH ?cB,?iH hD,Ab,?_,_,rfl];rw[qg6,qb0,qb0];rfl
 . ext sD;apply#[D,?SN ?dF (?u6),rfl,?f2,?_];rw[qq5];have:?H9=?QI ?dF (id ∘ ?u6):=by unfold Vf;rw[al];rfl
   rw[←this];exact kq G (?fX g)
noncomputable abbrev Sc:Stmt:=top 66
def Du:?q [?R,?dW,?u2,?y9,"k",?b3,?hT,?mO] [?R] (As Sc):=Bg
def fP[?u](F:Et K ?pZ ?pZ Sc f fd)[?t][?O8](Vz:Has P w K mg ?e ?r8 ?gO 10 (Tm K))[?lQ][?N6](Vt:Has P w K mg ?e ?pQ ?v7 4 (Wd K))[?lS](Mg:Has P w K mg ?e ?pB ?gA 8 (Om K)):Bz P w K mg ?e Eo 11 f fd [?R] (Wh K):=by
 apply ?OR Du;let#[a,xs,rfl,hL,hs,K6,kq]:=h;ext sG
 have h4:∀x∈xs,x.length<=4:=λx hx=>by
  let#[i,hi]:=qf7 hx;rcases (hs i x hi).cnt with e | e | e | e<;>omega
 have pl:∀k,?iR<=40:=λk=>?qQ
 apply#[_,(Ag (Av (i:=1) ?dZ ?eI)
  (Ag (?P1 ?dZ (?SR Rg (?W2 (?V7 (Aa (?WQ Bl (Aa ?j ?eJ)) Ac)))))
  (Ag (?PG ?dZ (?SR Rg (?W2 (?V7 ?aI))))
  (Ag (C4 qd1 rfl (?PC (?W2 (?VA 4))) (?SP 4 ?dZ) (Ag (?WM ?dZ (?V7 (?W2 (?SR Bl (?OC ?j (?WS Cc ?S))))))
  (Ag (Av (i:=6) ?dZ (?SR Vz (Aa (?WQ K3 (Aa ?z (Aa (An Mg hr (?OC ?j (?VD ?S))) ?dX))) ?dX)))
  (Ag (?RD (?W2 (?SR Vt (Aa ?j (Aa ?S (Aa ?e6 (Aa ?o ?nE)))))))
  (Ag (Av (i:=7) ?dZ (?V7 (?W2 (?SZ ?e6))))
  (Ag (?P1 ?dZ (Mz ?iT (?SR C6 (Aa (Ay ?bH ?e6 Al ?F) ?dX)) ?HK Qo))
  (Am (?PG ?dZ (Mz ?iT (?SZ ?e6) ?HK Qo)))))))))
  (?V5 ?l))))),?_]
 ext G
 apply ?O9 (λσ' H'=>Dx λ ?jY=>Bw (?TI none none) ?aA ?rP ?JV)
 . ext N7
 apply Mm λD H1 s1 nD hD=>?_;intro sq;apply ?O9 (λσ' H'=>Dx λ(la:Addr)=>Bw (?TI ?aX none) ?nK (la≠D) (?UM ?xD))
 . apply#[_,rfl,a,0,xs,rfl,?f0,O9m,?BU];ext z1;exact#[?gW,rfl,?KF,λla at_ H3 hal R3=>?OD #[la,rfl,?bD ?kF,?AB,LA (R3.rep hal)]]
 apply Mm λla H2 s2 nlD hla=>?_;intro sq;apply ?O9 (λσ' H'=>Dx λ(ga:Addr)=>Bw (?TI ?aX ?aS) ?jD (ga≠D) (?UM ?nM))
 . let#[_,lu,ez,hlq,Ab6,_]:=Hn hla;cases ez;ext O6;exact#[?gW,rfl,?KF,λga at_ H3 hal R3=>?OD #[ga,rfl,?kF,?AB,LA (R3.rep hal)]]
 apply Mm λga H3 s3 ngD hga=>?_;intro sq;have yY:=?QN ?eE s3;apply ?O9 (λσ' H'=>YG K H a D xs 4 σ' H')
 . apply#[_,rfl,?K,?K,?_];apply Eh (lo:=0) (n:=4) (λk σ G'=>YG K H a D xs k σ G') ?_ ?_ ?_
   . apply#[[],[],la,ga,?gW,?hB,?hB,_,_,_,_,rfl,yY,(?l5) _ _ hD,rfl,TieAt.first xs,?AQ,nlD,ngD,?H s3 hla,hga,?_,qa3 _,one_bits _ _,one_bits _ _]
     have e0:C7 xs (?MB-1)=0:=by
      show(Da xs (0-1)).length=0;rw[UG];rfl
     rw[e0];exact Lat.Lev.first _ _
   . rintro k σ G' hk Ea
     ext aH
     let#[us,ls,la,ga,z,L,G,o4,o5,o6,o7,rfl,g,Ct,hll,Zw,hB,nla,nga,rla,rga,lev,hzm,bL,bG]:=Ea;rw[show ?aO+?aC=?aC by omega];have Ch6:=pl ?aC;have Cg4:=pl ?p6
     have hzw:z+?d2<=40:=by
      have:=PN (xs:=xs) (show ?aC≠?fU by omega);omega
     have usl:?Q3 k:=hB.1.trans hll;have ekk:?fU-1=?aC:=O9m
     have VH:=?HD;apply ?O9 (λσ' H'=>?TH o6/\?UH G')
     . apply#[_,rfl,_,rfl,_,_,rfl,rfl,a,?fU,xs,rfl,VH,O9m,?BU];ext z1;exact ?OD #[rfl,s2]
     apply Ha λG1 g1=>?_;intro sq;have tw:=qP hs ?aC;have told:=lev.told tw;let#[pv,st]:=lev.st;have plan:=oB st told (λq c _ _=>TQ h4 _ q c) hzw;apply ?O9 (λσ' H'=>jQ λ(tp nm r1 D1 D2 b2:Addr) (k0:Nat) (f:?iD) (l r:?eY)=>Er (?TH ?aU) ?pF (?U0 f) (jP D nm r1 D1 D2 b2) (?TL aI ?aC))
     . apply#[_,rfl,_,rfl,_,rfl,_,_,rfl,rfl,a,xs,?fU,rfl,?H (?b4 g1) hL,O9m,h4,O9m,O9m,λT as G2 hal R2=>?_];rw[ekk]at hal;have rT:Rep K G2 (?d T) (dT (?uO) (?d2) (?wG)):=R2.rep hal;apply#[_,rfl,?nM,?d T,z,?uO,?d2,G,?wG,rfl,?H (?iB ?gD) rga,rT,O9m,O9m,O9m,λi j c hi hj hc=>Jd (bG i j hi hj) (HN h4 _ j c) (by unfold bookF;decide),λT2 jL G3 Ac3 R3=>?_];apply#[_,rfl,?d T2,z,?d2,Lat.gT (?uO) G (?wG),_,rfl,R3.rep Ac3,O9m,O9m,plan,λtp nm r1 D1 D2 b2 k0 f l r G4 hF hC k1 k2 x=>?_];exact ?OD #[tp,nm,r1,D1,D2,b2,k0,f,l,r,rfl,(?nF ?kF).trans ?hY,x.r,x.ne (((?iB ?gD).trans ?kF) _ _ Ct),#[lev,hF,hC,k1,k2,bL,bG,hzm]]
     apply yM λtp nm r1 D1 D2 b2 k0 f l r G2 g2 x xn bl=>?_;intro sq;have OH:=?eQ;apply ?O9 (λσ' H'=>Dx λ(us':?e4)=>Er (?TH ?aU) ?aA (?eS=?SX us') (Fy D H' us' (ls++[?TL Gp ?aC])) (?U0 f))
     . apply#[_,rfl,?OZ (?CO),_,rfl,_,rfl,_,rfl,_,rfl,_,rfl,a,tp,nm,r1,D1,D2,b2,?xD,?nM,xs,?aC,z,k0,_,L,G,f,l,r,rfl,?H (?b4 OH) hL,K6,rfl,?H OH rla,?H OH rga,x,O9m,bl.kz,bl.kw,λi hi=>by have:=bl.fin.dg.pos i hi;omega,bl.fin.bl.1,bl.fin.bl.2,bL,bG,λE eu G3 nE g3 hE rE=>?_];have XO:=OH.trans g3;apply#[D,_,_,rfl,rfl,?uG,?bJ,?_];have nED:E≠D:=λq=>by rw[q,?CO]at nE;cases nE
       apply ?OD #[us++[?d E],rfl,(?b4 XO).turn nD,Ab,?_,?_]
       . exact(hB.same XO).snoc (?uG) nED hE rE
       . exact(?hY g3).put xn (?uG) hB.refs
     apply Al3 λus' G3 g3 Ac6 hB3 x3=>?_;intro sq;apply ?O9 (λσ' H'=>σ'=[?n,?Z,?aX,?aS,?eG,?jG,?aU,?SU ?oM]/\G3=H')
     . apply#[_,rfl,tp,_,_,_,rfl,rfl,?uW,rfl,nm,_,rfl,?p x3.num,?_];rw[Bu];ext lX
     rintro _ _ ⟨rfl,rfl⟩;have hkw:=bl.kw;apply ?O9 (λσ' H'=>Dx λ(la2:Addr)=>Bw (σ'=[?n,?Z,rS la2,?aS,?eG,?jG,?aU,?SU ?oM]) (?UH G3) (la2≠D) (?UL la2 (dT (?d2-k0) (?d2) ?GY)))
     . apply#[_,rfl,tp,_,_,_,rfl,rfl,?uW,rfl,_,rfl,?eM,_,_,_,rfl,x3.right,O9m,O9m,λF as G4 hal R4=>?_];apply#[_,rfl,_,rfl,F,_,rfl,.of R4.at,?w6];have ec:Nd ?j1 (?c ?oM) ?k=(as.drop k0).map ?aB:=by rw[c8,List.map_drop]
       rw[ec];have R5:=R4.drop (k:=k0) hC rfl;apply ?OD #[C,rfl,R5.same,(At (?tE _ _ Ac6) hC).symm,?_];exact R5.rep (by rw[ql8,hal])
     apply Mm λla2 G4 g4 Bb3 Ba0=>?_;intro sq;have x4:=x3.same g4;let#[_,bu,ez,hbq,Bh3,Au6]:=Hn x4.rback;cases ez;apply#[_,rfl,tp,_,_,_,rfl,rfl,?vO,rfl,_,rfl,_,rfl,b2,bu,rfl,hbq,?w6];rw[c8];have g5:=?y (o:=?m (bu.drop k0)) hC;apply#[us',ls++[?TL Gp ?aC],la2,C,?d2-k0,(?GY),(λi=>r.2 (k0+i)),_,_,_,_,rfl,(?l4 g4).trans g5,(?qM) _ _ Ac6,by rw[qa8,hll];rfl,Zw.snoc bl,hB3.same (?qM),Bb3,(At (g4 _ _ Ac6) hC).symm,?_,?_,?_,?_,?_,?_]
     . ext lU;exact ?H g5 Ba0
     . ext lU;apply VP (us:=bu) (λi u e=>?_) Bh3 (?bO);let#[h1,b,eb,hb]:=Au6 i u e;exact#[h1,b,eb,g5.seq hb]
     . let#[pl',lo]:=bl.fin.lo;have:=lev.next tw bl.fin.dg bl.fin.il bl.fin.ir lo;rw[?MD,ekk];ext bX
     . ext lU;omega
     . ext lU;exact λi c hi hc=>bl.fin.br.1 _ _ O9m hc
     . ext lU;exact λi c hi hc=>bl.fin.br.2 _ _ O9m hc
   . rintro σ G' h;exact ?OD h
 rintro _ H4 ⟨us,ls,la',ga',z,L,G,o4,o5,o6,o7,rfl,g,Ct,hll,Zw,hB,_⟩;exact#[_,rfl,kq D us ls H4 nD g Ct hll #[_,_,_,Zw] hB.out]
noncomputable abbrev L1:Stmt:=Ev (top 69) 0
def Pe:?q [?aF,?cM,?vG] ?x4 (As L1):=Bg
def Zb[?u](F:Et K ?cL ?L6 L1 f fd)[?t](V0:Has P w K mg ?e ?pZ [?R] 11 (Wh K))(Vu:Has P w K mg ?e ?p1 ?xF 3 (We K))(Vw:Has P w K mg ?e ?oB ?dJ 6 (Ti K))(Ig:Has P w K mg ?e ?m3 ?kV 1 (Ki K)):Bz P w K mg ?e Eo 12 f fd ?x4 ?G1:=by
 apply ?OR Pe;let#[p,dx,a,us,H0,xs,rfl,hp,ha,r,s0,n0a,n0p,hs,K6,k]:=h;have hL:LT K H ?n1 xs:=#[a,us,rfl,.of ha,?dG s0 r]
 have nap:a≠p:=λz=>by rw[z,hp]at ha;cases ha
 apply#[_,(Ag (?UR Vw ?a8)
  (Ag (?OQ (?TU ?a8))
  (Ag (?P1 Pe.nd (?SR V0 ?gY))
  (Ag (Eu (K:=K) ?j (Bt (N':=?kV) (cap:=?d5) ?f ?P (?ON Cg ?o) (?OB (?SP 0 zQ)) ?V (?OB (?SR Ig ?a4))))
  (Am (?OQ (?SR Vu (Aa ?Y ?aI)))))))),?_]
 ext G
 apply ?O9 (?T4 [?v,?n,none] ?g3)
 . apply#[_,rfl,?h7,xs,rfl,hL,hs,K6,?oX];exact Oz ?M (?oL)
 ext j2;apply ?O9 (λσ' H'=>Dx λ ?HH=>G9 (σ'=[?v,?n,none]) (?F8) (H' P=?gG) (P≠p) (P≠a) (H' p=?TY Au [?yD]))
 . apply#[_,rfl,a,us,rfl,?p (?OE s1 ha),λP hP=>?_];have s2:=?cU (?y (o:=?m us) hP);have nPp:P≠p:=(At (?k3) hP).symm;apply#[_,rfl,p,Au,dx,[],rfl,?PZ hp,?eX,?wB,?aD,?_];exact ?OD #[P,rfl,?UZ s2,by rw[Ak nPp];exact Ab,nPp,(At (?U8 ha) hP).symm,?w3]
 apply wK λP H2 sx2 hP2 nPp nPa hp2=>?_;intro sq;have tD:=?LV s0 n0p;have ha2:=sx2 _ _ nap ha;apply ?O9 (λσ' H'=>Ut λ ?jY (bu:?e4) ?GR=>Oy (σ'=[?v,?n,?Z]) ?jD (?eS=?SX bu) (D≠p) (Ol H' bu ls) (ls.length=4) (∃z L G,TieAt xs 4 ls z L G))
 . apply#[_,rfl,p,Au,dx,_,_,rfl,hp2,?eX,?wB,rfl,P,xs,rfl,(?RM hP2 tD),hs,K6,λD bu ls H3 nD s3 hD xM Zw hB=>?_];exact ?OD #[D,bu,ls,rfl,s3,hD,(At hp2 nD).symm,hB,xM,Zw]
 apply Al0 λD bu ls H3 s3 hD nDp hB xM At7=>?_;intro sq;have Zw:=let #[_,_,_,t]:=At7;TieAt.lev t
 have hp3:=s3 _ _ hp2;have ha3:=s3 _ _ ha2;have h0:=hB.1;apply ?O9 (λσ' H'=>F1 λ(Lv:Addr) ?hL=>Xg (σ'=[?v,?n,?Z]) (?EM) (H' Lv=?g4) (Lv≠p) (Lv≠a) (Ol H' ws (ls.map Xp)) ((∀v∈ws,v≠?h7)) (H' p=?TY Au ?sW))
 . apply#[_,rfl,D,rfl,(?UW hD),λLv TF=>?_];have nLp:Lv≠p:=(At hp3 TF).symm;have nLa:Lv≠a:=(At ha3 TF).symm
   let Bm5:?U:=λi ws τ G=>Er (?h H3 G) (G Lv=?g4) (Fy Lv G ws ((ls.take i).map Xp)) ((∀v∈ws,v≠?h7)) ?fI
   apply Cr (K:=K) (a:=D) (xs:=bu) Bm5
    #[?y TF,Ab,?AQ,(λv hv=>by cases hv),?k,rfl] (λi ws τ G _ hz=>by ext bW;exact ?OE g hD) ?_ ?_
   . rintro i v ws τ G hv Ea;revert τ;apply XA ?_;intro g VH hW hna o Fv;have hi:=?fV;ext NI
     let ?CR:=?ER;have hpl:=(Zw i ps hps).len K6
     have wl:ws.length<=i:=by
      have:=hW.1;rw[qa2,qe2]at this;omega
     apply#[_,rfl,pa,pu,ps,rfl,?GL,rP.same g,O9m,λE eu G2 nE g2 hE rE=>?_];have nEL:E≠Lv:=(At VH nE).symm;apply#[?GQ,?bJ,?iH TF,Ab,?_,λv hv=>?_,_,rfl]
     . rw[qf8,hps,qb0];exact(hW.same g2).snoc (?GQ) nEL hE rE
     . rcases qj8.mp hv with hv | hv
       . exact hna v hv
       . rw[qe9]at hv;subst hv
         exact λz=>by
          cases z;rw[g _ _ ha3]at nE;cases nE
   . rintro ws τ G ⟨g,VH,hW,hna,_⟩;rw[h0,qe7]at hW;apply(?SA ?yI ?EP);apply ?OD #[Lv,ws,rfl,?UZ g,by rw[Ak nLp];exact VH,nLp,nLa,?BF,hna,?w3];let#[E,eu,rfl,_,hE,rE]:=?zV;apply#[E,eu,rfl,?_,B7.kd (λc o e ho=>?_) rE]
     . ext j7
       . exact hE
       . rw[z,?yI]at hE;cases hE
     . ext j7
       . exact e
       . rw[z,?yI]at e;cases e;ext yY
 apply Al2 λLv ws H4 WO TF nLp nLa hW hna Q0=>?_;intro sq;have wR:=WO.same (?mJ s3) n0p;have hP4:=WO _ _ nPp (s3 _ _ hP2);have hD4:=WO _ _ nDp hD;have ha4:=WO _ _ nap ha3;have kd4:∀c o,H3 c=?b9->(∀C d f,o≠?N C d f)->H4 c=?b9:=λc o e h=>WO _ _ (λz=>by rw[z,hp3]at e;cases e;exact h _ _ _ rfl) e
 have hB4:Ol H4 bu ls:=#[h0,λi v ps e1 e2=>by
  let ?M5:=hB.2 i v ps e1 e2;exact#[E,eu,rfl,kd4 _ _ hE λ_ _ _ z=>(by cases z),B7.kd (λc o e ho=>kd4 c o e λ_ _ _ z=>by rcases ho with⟨_,q⟩|⟨_,q⟩<;>rw[q]at z<;>cases z) rE]]
 apply#[_,rfl,p,Au,dx,_,_,rfl,Q0,?eX,?wB,rfl,_,rfl,P,D,xs,bu,ls,rfl,(?RM hP4 wR),K6,hD4,hB4,λps hps=>?_,λLf wu H5 nLf s5 hLf dd=>?_]
 . let#[i,hi]:=qf7 hps;exact(Zw i ps hi).ok K6
 have nfp:Lf≠p:=(At Q0 nLf).symm;have nfa:Lf≠a:=(At ha4 nLf).symm;have gD:=?CT;apply(?SA gD T.na_Book_lifts);have hp6:upd H5 p (?SF Lf) p=?TY Au [?yD,?KD,(?cK,?d Lf)]:=?w3
 have EJ:?bP p H5 (?CQ):=?fS;generalize ?CQ=H6 at hp6 EJ;have ha6:=?SL nap ha4;have s06:=EJ.same (?EU s5) n0p;have sB:=QY s06 n0a
 have kd6:∀c o,H5 c=?b9->((∃l,o=?x l)\/∃l,o=.dK l)->mW H6 a c=?b9:=λc o e ho=>by
  have ncp:c≠p:=λz=>by rw[z,gD]at e;cases e;ext yY
  have e6:=EJ c o ncp e;rw[Lj ?y0]
  . exact e6
  . rw[z,ha6]at e6;cases e6;ext yY
 apply k (mW H6 a) ls H6 (((sx2.trans (?f6 s3)).trans WO).trans ((?f6 s5).trans EJ)) #[#[dx,P,Lv,Lf,ws,wu,?_,(?RM ?_ sB),?_,?BF,?_,dd.1,λi v e=>?_],hs,K6,xM,Zw,At7] sB MV kT
 . rw[Lj nap.symm];exact hp6
 . rw[Lj nPa];exact ?SL nPp hP4
 . rw[Lj nLa];exact ?SL nLp TF
 . let ?M5:=?zV;have hE5:=s5 _ _ hE;have nEp:E≠p:=λz=>by rw[z,gD]at hE5;cases hE5
   have nEa:E≠a:=λz=>hna _ (qb3 e1) (?EI);exact#[E,eu,rfl,by rw[Lj nEa];exact EJ _ _ nEp hE5,B7.kd kd6 (rE.same s5)]
 . rw[Lj nfa];exact EJ _ _ nfp hLf
 . let#[c,e1,_,e2]:=dd.2 i v e;exact#[c,e1,rfl,kd6 _ _ e2 (?A ?bC)]
noncomputable abbrev Tr:Stmt:=top 87
def Hx:?q [?hZ,?kQ,"_law_shape","_law_filling","_law_gauge",?pJ,?AI,"_law_how","_law_at","_law_number","_law_holes","_law_found",?CJ] ?pC (As Tr):=Bg
def zK[?u](F:Et K ?hA ?hA Tr f fd)[?t](Z4:Has P w K mg ?e ?oE [?kQ] 1 (Th K))(Gx:Has P w K mg ?e ?q5 ?rS 1 (Tk K))(P5:Has P w K mg ?e ?nD ?nX 10 (EO K))(DF:GZ P w K mg ?e Au ?x4 12 ?G1)(Od:Ka P w K mg ?e Au ?u1 ?fO 4 ?LG)(Me:Ka P w K mg ?e Au ?xG ?fO 4 ?AA):?RP P f:=by
 apply ?OR Hx;let#[a,ns,rfl,hS,hl,Bz9,kq]:=h;have j8:=hr.u8
 apply#[_,(Ag (?P7 1 (Bk Cc Al (?WS Gu ?l2)))
  (Ag (Av (i:=2) ?bY (Bk ?oQ (F7 (?W2 (Fq Ac))) (?W4 ?qA (?OB (Fq (Aa Al ?eJ))))))
  (Ag (?P7 3 Fr)
  (Ag (?P7 4 Fr)
  (Ag (C4 qd1 rfl ?qA (?SP 5 ?bY) (Ag (?VB ?o (Fq (Aa Al (?WI (?PL (Bk Gu (?WS Cc ?aZ) ?l)) (?PL ?aZ)))))
  (Ag (Nw ?iK ?z (Bk Cc (?PL ?l) ?aZ) Al ?f)
  (Am (Cl (?OS KI ?aZ) (Am (Nw ?iK ?S (?PL ?aZ) ?aZ ?f)) Bv)))))
  (Ag (?P7 6 (?SR Z4 ?a8))
  (Ag (?P7 7 ?l2)
  (Ag (?P7 8 (Bk Gu ?l2 ?l))
  (Ag (?P7 9 (Bk Gu ?l2 (?WS zG Al)))
  (Ag (?VO (?WS Gu ?bM) (Nw ?iK ?S (?PL ?eH) (Bk Cc ?l ?eW) ?f))
  (Ag (?VV ?z)
  (Ay8.h (mC (i:=10) (?VV (?OK ?e6 (Bk Cc Al (Bk Gu ?l2 ?l)))) ?bY ?f ?pX (Pm (Dj (Pm (Dj (FD (Dj (Pl Al) (?UB (?OJ Al) (Pl Fr)))) N3)) (Dj (Pm (Dj (FD (Dj (Pl ?l) (?UB ?S (Pl ?z)))) N3)) (Dj (Pm N3) (Dj (Pm N3) N3)))))
  (Ag (?P7 11 (?SR P5 (Aa ?o (Aa ?m6 ?jP))))
  (Ag (?W1 ?c3 (Oo (Df (C9 (Aw (?WR E8) ?e5 B6 (?OC ?iO (Gm (v:=.ty ?y2) rfl T.n_bool g7 rfl))))) (Nv (Bo Jb ?iO (?Q7 Dy (?WS Gu ?bM)) ?w))))
  (Ag (?P7 12 (M1 DF hr ?f T.m_Book ?aI))
  (Ag (Cl (Bo (?ON vC j8) (?W3 (Dr ?l ?eX Od hr ?a4)) (F7 (Aa Al (Aa Al (Aa Al ?eJ)))) ?w) ?aQ Bv)
  (?V5 (D8 (?ON VC j8) (?W3 (Dr ?l ?eX Me hr ?a4)) (F7 (Aa ?eI (Aa (F7 ?a8) (?OC ?eI ?eI)))) ?w))))))))))))))))))),?_]
 ext G
 apply ?O9 (λσ' H'=>Dx λ(n:Nat)=>Bw (?T1 none none) (?cV) (2<=n) (n<20))
 . apply#[_,rfl,a,ns,0,rfl,hS,?K,hl,_,_,rfl,rfl,(?PK 18),_,_,rfl,rfl,?_];generalize xN:(_:Int)%18=c;have m0:0<=c:=by rw[←xN];exact ?I6
   have m1:c<18:=by rw[←xN];exact ?CH
   let#[n,hn]:=qj9 (show 0<=2+c by omega);apply ?OD #[n,?_,rfl,O9m,O9m];rw[←hn];rfl
 apply WK λn h2 Eb=>?_;intro sq;apply ?O9 (λσ' H'=>F1 λ(p:Addr) ?iP=>Er (?T1 ?v none) (?TG p) ?aA (H' p=?gG) (?iF K H' us ((?FY).map tI)))
 . apply#[?b5,λe he=>?_];have s1:?QC H ?xX:=?y he;have t1:TI K (?xX) (?d e) []:=?uF;generalize ?xX=H1 at s1 t1;apply#[?a9,λL hL'=>?_];have s2:?QC H1 ?B5:=?y hL';have e2:upd H1 L (?VU e) L=?SX [?d e]:=Ab;have t2:=TI.same s2 t1;generalize ?B5=H2 at s2 e2 t2;apply(?R3 ?h5);rw[qd6]
   let Bm4:?U:=λi ys τ G=>Bw (?h H2 G) ?AN (?iF K G ys ((?b1 i ([0,0]:?v9)).map tI)) (?PR [o1])
   apply Ik (lo:=0) (n:=n) Bm4
    #[?fZ,Ab,rfl,?k,rfl] ?_ ?_
   . rintro i ys τ G hi Ea;ext b7;intro g MY rG o1 Fv;have yl:ys.length=i:=?EB
     apply#[?a9,?pE];have g2:?QC G ?y7:=?y ht;have tt:TI K (?y7) ?oC [0,0]:=?uF;generalize ?y7=G2 at g2 tt;apply#[?wF,?bJ,?iH hE,Ab,?_,_,rfl];rw[qi5];exact KG (?wF) (?dG g2 rG) tt
   . rintro ys τ G ⟨g,MY,rG,_⟩;have yl:ys.length=n:=?EB
     apply#[L,E,_,_,rfl,rfl,?OE g e2,.of MY,?yG,λp hp=>?_];have g3:?QV p (?m ([?d e]++ys)):=?cS;have tD:=?eE;apply ?OD #[p,_,rfl,(?mJ g).free hp,(?mJ g).trans g3,Ab,?_];rw[show ?FY=?JG from qp3 _];exact#[_,_,rfl,TI.same (?b4 g3) t2,?dG g3 rG]
 apply OP λp us0 H1 np s1 hp r0=>?_;intro sq;apply ?O9 (λσ' H'=>Dx λ(d1:Addr)=>Bw (?T1 ?v ?bI) (H1 d1=none) ?nK (?mM=?SV (El n 0)))
 . ext NS
 apply Mm λd1 H2 nd1 s2 hd1=>?_;intro sq;apply ?O9 (λσ' H'=>Dx λ(d2:Addr)=>Bw (σ'=(?TP none)) (H2 d2=none) ?jD (?VF d2 (E5 0)))
 . ext NS
 apply Mm λd2 H3 uU s3 hd2=>?_;intro sq;have ZM:d1≠d2:=λz=>by rw[z,uU]at hd1;cases hd1
 have nH1:?TG d1:=?gH nd1;have nH2:?TG d2:=(?eE).free uU;apply ?O9 (λσ' H'=>F1 λ ?iP ?DP=>G9 (σ'=?J5) ?aA (H' p=?gG) (?iF K H' us ((?gJ).map tI)) (?mM=?SV ?nS) (?VF d2 ?sM))
 . ext z9;rw[qd6]
   let Bm3:?aN:=λi σ G=>F1 λ ?iP ?DP=>G9 (σ=?J5) ?dM (G p=?gG) (?iF K G us ((?QE i).map tI)) (G d1=?T0 (El n i)) (?VT G)
   apply Eh (lo:=0) (n:=n) Bm3 #[us0,?k,rfl,?QN ?eE s3,(?l5) _ _ hp,?dG (?l5) r0,s3 _ _ hd1,hd2] ?_ ?_
   . rintro i σ G hi Ea
     ext aH
     revert σ;ext O5;have ul:us.length<=60:=by have:=rG.length;unfold OV at this;rw[qa2,qa8,qa8,qc5,qa2,qd9]at this;simp at this;omega
     have n0:?aO<?aV:=O9m
     apply ?WA (λσ' H'=>Dx λ ?iP=>G9 (?PF ?g) ?aA (H' p=?gG) (?UT us) (?mM=?T0 (El n i)) (?VT H'));ext cI
     . apply#[_,rfl,?OZ hpG,_,rfl,_,_,rfl,rfl,_,rfl,_,_,rfl,rfl,n0,_,_,rfl,rfl,_,rfl,_,_,rfl,rfl,?a9,?pE];have g2:?QC G ?wU:=?y ht
       have t2:TI K (?wU) ?oC (Cy 1 n [] i):=by
        rw[Ad5 h2];exact ?uF
       generalize ?wU=G2 at g2 t2;have np1:d1≠p:=λz=>by rw[z,hpG]at h1G;cases h1G
       have np2:d2≠p:=λz=>by rw[z,hpG]at h2G;cases h2G
       apply#[p,us,_,rfl,rfl,?CZ,?bJ,?_];apply ?R9 #[?vI,rfl,?iH np,Ab,?_,by rw[Ak np1];exact g2 _ _ h1G,by rw[Ak np2];exact g2 _ _ h2G];rw[oV];exact KG (?CZ) (?dG g2 rG) t2
     apply wK λWL G2 g2 hp2 r2 h12 h22=>?_;intro sq;apply ?WA (λσ' H'=>G9 (?PF ?g) ?aA (?V9 p WL) (?UT WL) (?mM=?T0 (?HP)) (?VT H'));ext cI
     . have fl:=BK n i;apply#[_,rfl,_,rfl,_,_,rfl,rfl,_,rfl,_,_,rfl,rfl,d1,_,rfl,?PO (?gR+?eT) h12,?_];rw[Sw,show putI (El n i) (1+?aV+?eT) 1=?HP by ext s8;exact nF n i];apply ?R9 #[rfl,g2.turn nH1,?_,Kc h12 r2,Ab,by rw[Ak ZM.symm];exact h22];rw[Ak λz=>by rw[z,h12]at hp2;cases hp2];exact hp2
     apply Al4 λG3 g3 hp3 r3 h13 h23=>?_;intro sq;ext sB;ext a2
     . have hi0:0<i:=by
        have:?aO<?i6:=?C
        omega
       have gl:=bJ i;apply#[_,rfl,_,rfl,_,rfl,_,_,rfl,rfl,d2,_,rfl,?PO (?n7+?eT) h23,?_];rw[Sw,show putI (E5 i) (1+?eT) ?eT=E5 ?aT by ext s8;exact nA hi0];apply#[WL,_,rfl,g3.turn nH2,?_,Kc h23 r3,by rw[Ak ZM];exact h13,Ab];rw[Ak λz=>by rw[z,h23]at hp3;cases hp3];exact hp3
     . have hi0:i=0:=by
        have:¬?aO<?i6:=?C
        omega
       subst hi0;exact#[WL,_,rfl,g3,hp3,r3,h13,h23]
   . ext bN;ext O5
     exact key _ _ #[us,o5,rfl,g,hpG,by
      have e:?gJ=?QE n:=by unfold Cp Os OV;rw[qh8]
      rw[e];exact rG,h1G,h2G]
 apply OO λus o5 H4 s4 Q0 r4 h14 h24=>?_;intro sq;apply ?O9 (λσ' H'=>F1 λ(l:Addr) ?i3=>?T5 none none/\?TK ?nS ?sM)
 . apply#[_,rfl,n,rfl,h2,Eb,λl as H5 nl s5 hl5 dn=>?_]
   have fr:∀{d:Addr}{o:HO},H4 d=?b9->?DQ:=λ{d o} e z=>by
    let ?tN:=qf7 z;rw[(?CN).1]at e;cases e
   exact ?OD #[l,as,rfl,?xU,?CT,?dG s5 r4,s5 _ _ h14,s5 _ _ h24,hl5,#[dn.1,dn.2.1,λi c hc=>#[s4.free (?LD).1,(?LD).2]],ZM,fr h14,fr h24,nH1,nH2,np]
 apply OQ λl as H5 S5=>?_;intro sq;apply ?O9 (λσ' H'=>Dx λ(hw:Int)=>?T5 ?fK none/\?rW)
 . exact#[_,rfl,a,ns,1,rfl,?uE,?K,hl,?OD #[_,rfl,rfl]]
 apply Al7 λhw=>?_;intro sq;apply ?O9 (λσ' H'=>Dx λ(m:Nat)=>Dw (?T5 ?fK ?bT) (?rW) (m<n))
 . apply#[_,rfl,a,ns,2,rfl,?uE,?K,hl,_,rfl,_,_,rfl,rfl,(?RK ?aV),?_];generalize xN:(_:Int)%?aV=c;have m0:0<=c:=?G3
   have m1:c<?aV:=?AX
   let#[m,hm]:=qj9 m0;subst hm;exact ?OD #[m,rfl,rfl,O9m]
 apply Al6 ?g7;intro sq;apply ?O9 (λσ' H'=>Dx λ(v:Int)=>Bw ?oZ (?rW) (0<=v) (v<10 ^ 20))
 . apply#[_,rfl,a,ns,3,rfl,?uE,?K,hl,?_];apply#[_,_,rfl,rfl,(by first | decide | exact ?GA | exact#[?K,?K,?K]),_,_,rfl,rfl,(by show ?aO<10 ^ 20;decide),?_];exact ?OD #[_,rfl,rfl,?I6,?CH]
 apply WK λv v0 v1=>?_;intro sq;have fl:=BK n n;have gl:=bJ n;apply ?O9 (λσ' H'=>Dx λ(g:Ms)=>Dw ?oZ (?TK ?nS g) (((hw%3=1/\g=putI ?sM (1+?cT) (?aV+v))\/(¬hw%3=1/\g=E5 n))))
 . ext yL;ext a2
   . have h3:hw%3=1:=?C
     apply#[_,rfl,_,rfl,_,_,rfl,rfl,_,rfl,_,rfl,_,_,rfl,rfl,d2,_,rfl,?PO (?n7+?cT) S5.h2,?_];rw[Sw];exact ?OD #[_,rfl,S5.put2 _,?p ?E3]
   . have h3:¬hw%3=1:=?C
     exact ?OD #[_,rfl,S5,?A ?E3]
 apply O0 λg H6 S6 cg=>?_;intro sq;apply ?O9 (λσ' H'=>Dx λ(f:Ms)=>Dw ?oZ (?TK f g) (((?f9/\?mH/\f=putI ?nS (1+?aV+?cT) (2+v))\/(¬(?f9/\?mH)/\f=El n n))))
 . ext yL;ext a2
   . have h3:?f9:=?C
     ext ML
     . have h5:?mH:=?fN
       apply#[_,rfl,_,_,rfl,rfl,_,rfl,_,rfl,_,_,rfl,rfl,_,rfl,_,_,rfl,rfl,d1,_,rfl,?PO (?gR+?cT) S6.h1,?_];rw[Sw];exact ?OD #[_,rfl,S6.put1 _,?p #[h3,h5,rfl]]
     . have h5:¬?mH:=?fN
       exact ?OD #[_,rfl,S6,?A #[λz=>h5 z.2,rfl]]
   . have h3:¬?f9:=?C
     ext cX;exact ?OD #[_,rfl,S6,?A #[λz=>h3 z.1,rfl]]
 apply O0 λf H7 S7 cf=>?_;intro sq;apply ?O9 (λσ' H'=>F1 λ(lf:?cR Ms) (j:Nat)=>Bw ?oZ (?sR) (j<n) (((?f9/\?oU/\lf=(L6 n).set (1+j) (putI (F0 n j) (1+?aV+?cT) (2+v)))\/(¬(?f9/\?oU)/\lf=L6 n))))
 . ext yL;ext a2
   . have h3:?f9:=?C
     ext ML
     . have h5:?oU:=?fN
       apply#[_,rfl,_,_,rfl,rfl,_,rfl,_,rfl,a,ns,4,rfl,S7.sm.seq hS,?K,hl,_,rfl,_,_,rfl,rfl,(?RK ?aV),_,_,rfl,rfl,?_];generalize xN:(_:Int)%?aV=cj;have m0:0<=cj:=?G3
       have m1:cj<?aV:=?AX
       let#[j,hj]:=qj9 m0;subst hj;have hjn:j<n:=O9m
       have asl:as.length=2*n+1:=by have:=S7.dn.1;rw[M5]at this;ext bX
       obtain⟨c,hc⟩:∃c,as[1+j]?=?c c:=?lI
       have hat:dX ?j1 (1+?iV)=?QG c:=by
        have:=Bp (xs:=?dU) (j:=1+j) (show ?j1[1+j]?=?c (?aB c) by rw[qb4,hc];rfl)
        rwa [show((1+j:Nat):Int)=1+?iV by omega]at this
       have hcd:=(S7.dn.2.2 _ c hc).2;rw[CY hjn]at hcd;have ll:(F0 n j).length<=40:=(mO Eb h2 hjn).ok.len;apply#[l,_,_,_,rfl,rfl,.of S7.hl,hat,_,rfl,_,_,rfl,rfl,_,rfl,_,_,rfl,rfl,c,_,rfl,?PO (?gR+?cT) hcd,?_];rw[Sw];exact ?OD #[_,j,rfl,S7.putL hc _,hjn,?p #[h3,h5,rfl]]
     . have h5:¬?oU:=?fN
       exact ?OD #[_,0,rfl,S7,O9m,?A #[λz=>h5 z.2,rfl]]
   . have h3:¬?f9:=?C
     ext cX;exact ?OD #[_,0,rfl,S7,O9m,?A #[λz=>h3 z.1,rfl]]
 apply oQ λlf j H8 S8 hj cl=>?_;intro sq
 have spo:Spoil n hw v m j g f lf:=by
  rcases cg with⟨g1,rfl⟩|⟨g1,rfl⟩
  . rcases cf with⟨f1,f2,rfl⟩|⟨f1,rfl⟩
    . omega
    . ext yZ
      . omega
      . exact .gau g1
  . rcases cf with⟨f1,f2,rfl⟩|⟨f1,rfl⟩
    . ext yZ
      . omega
      . exact .fil f1
    . ext yZ
      . exact .lif l1
      . apply ?k7 ?_;omega
 let#[pk,pb]:=spo.ok Eb h2 hm hj v0 v1;apply ?O9 (λσ' H'=>Ut λ(hh:Addr) (lu:?e4) (Az:?GC)=>Bw (σ'=[?n,?a6,?v,?bI,?bR,o5,?a1,?fK,?bT,iS v,rS hh,none,none]) (?sR) (?V9 hh lu) (Wa Az H' lu (?JI)))
 . apply λx1 hx1=>?zQ
   rw[Uu];have t1:?h H8 (?CC):=?y hx1;have e1:upd H8 x1 ?iW x1=?c ?iW:=Ab;generalize ?CC=J1 at t1 e1;apply λx2 hx2=>?zQ
   rw[Uu];have t2:?QC J1 ?DG:=?y hx2;have e2:upd J1 x2 ?iW x2=?c ?iW:=Ab;generalize ?DG=J2 at t2 e2;apply λx3 hx3=>?_;have t3:?QC J2 ?GX:=?y hx3;have e3:upd J2 x3 ?cG x3=?k8:=Ab;generalize ?GX=J3 at t3 e3;apply#[?a9,λx4 hx4=>?_];have t4:?QC J3 ?K8:=?y hx4;have e4:upd J3 x4 (?TX x3) x4=?c (?TX x3):=Ab;generalize ?K8=J4 at t4 e4;apply#[?a9,λx5 hx5=>?_];have t5:?QC J4 ?CA:=?y hx5;have e5:upd J4 x5 (?VU x4) x5=?SX [?d x4]:=Ab;generalize ?CA=J5 at t5 e5;ext m1;apply λy1 hy1=>#[Ab,[(?d0 2,?dI)],rfl,?aD,?_]
   rw[Uu];have t6:?h J5 (?HQ):=?y hy1;have e6:upd J5 y1 (?OG [(2,1)]) y1=?T0 [(2,1)]:=Ab;generalize ?HQ=J6 at t6 e6;apply#[_,rfl,_,rfl,?a9,λy4 hy4=>?_];have t7:?QC J6 ?KH:=?y hy4;have e7:upd J6 y4 (?TW d1) y4=?c (?TW d1):=Ab;generalize ?KH=J7 at t7 e7;apply#[?a9,λy5 hy5=>?_];have t8:?QC J7 ?AR:=?y hy5;have e8:upd J7 y5 (?VU y4) y5=?SX [?d y4]:=Ab;generalize ?AR=J8 at t8 e8;apply#[?b5,λz1 hz1=>?_];have t9:?QC J8 ?KN:=?y hz1;have e9:upd J8 z1 ?bQ z1=?h2:=Ab;generalize ?KN=J9 at t9 e9;apply#[?b5,λz2 hz2=>?_];have HQ:?QC J9 ?DC:=?y hz2;have e10:upd J9 z2 ?bQ z2=?h2:=Ab;generalize ?DC=J10 at HQ e10;apply#[?a9,λhh hhh=>?_];have oZ:?h J10 (upd J10 hh (?m [?d x5,?d y5,?d z1,?d z2])):=?y hhh;have u9:=(HQ.trans oZ)
   have u8:=t9.trans u9;have u7:=t8.trans u8;have u6:=t7.trans u7;have u5:=t6.trans u6;have u4:=t5.trans u5;have u3:=?iI u4;have u2:=?qD u3;have u1:=?w5 u2;have u0:=?wV u1;have k05:=((?wV t2).trans t3).trans (?iI t5);have Bb1:x2≠x1:=λz=>by rw[z,e1]at hx2;cases hx2
   have Bb0:x2≠y1:=λz=>by rw[←z,?II]at hy1;cases hy1
   have Bb7:d2≠x1:=λz=>by have:=S8.h2;rw[z,hx1]at this;cases this
   have Bb6:d2≠y1:=λz=>by have:=k05 _ _ S8.h2;rw[z,hy1]at this;cases this
   apply ?OD #[hh,_,λc=>c=x1\/c=y1,rfl,S8.same u0,Ab,rfl,λi w ps T6 hps=>?_]
   match i,T6,hps with
   | 0,T6,hps =>
     have ew:?aB x5=w:=?hP;have ep:[?MA]=ps:=?vE;subst ew ep;apply#[x5,_,rfl,u5 _ _ e5,rfl,?K6]
     match i,T6,hp with
     | 0,T6,hp =>
       have ew:?aB x4=w:=?hP;have ep:?MA=p:=qb9 hp;subst ew ep;exact#[x4,x1,x2,x3,rfl,u4 _ _ e4,u1 _ _ e1,u2 _ _ e2,u3 _ _ e3,?cD,λz=>z.elim Bb1 Bb0]
     | i+1,T6,hp=>simp at T6
   | 1,T6,hps =>
     have ew:?aB y5=w:=?hP;have ep:[?BG]=ps:=?vE;subst ew ep;apply#[y5,_,rfl,u8 _ _ e8,rfl,?K6]
     match i,T6,hp with
     | 0,T6,hp =>
       have ew:?aB y4=w:=?hP;have ep:?BG=p:=qb9 hp;subst ew ep;exact#[y4,y1,d2,d1,rfl,u7 _ _ e7,u6 _ _ e6,u0 _ _ S8.h2,u0 _ _ S8.h1,?i9,λz=>z.elim Bb7 Bb6]
     | i+1,T6,hp=>simp at T6
   | 2,T6,hps =>
     have ew:?aB z1=w:=?hP;ext NV;exact#[z1,[],rfl,u9 _ _ e9,rfl,?LT]
   | 3,T6,hps =>
     have ew:?aB z2=w:=?hP;ext NV;exact#[z2,[],rfl,oZ _ _ e10,rfl,?LT]
   | i+4,T6,hps=>simp at T6
 apply oO λhh lu Az H9 S9 hhh ba=>?_;intro sq;apply ?O9 (λσ' H'=>?T8 v/\?sR)
 . apply#[_,rfl,_,rfl,_,rfl,p,hh,l,Az,?gJ,lu,_,?JI,lf,rfl,#[p,us,rfl,.of S9.hp,S9.r],hhh,ba,S9.hl,S9.dn.out,pk,λH' s'=>?_];rw[pb];exact ?OD #[rfl,S9.same s']
 apply Ha λH10 S10=>?_;intro sq;apply ?O9 (λσ' H'=>?T8 v/\H10=H')
 . apply#[_,rfl,.bl _,?y2,.bl _,rfl,?A (?cD),rfl,_,rfl,?_];ext dN;apply#[_,rfl,_,rfl,_,_,rfl,rfl,(?PK 3),rfl,rfl,_,rfl,?_];ext cX;ext lX
 ext bV;apply ?O9 (λσ' H'=>Ut λ(q:Addr) (B:Hp) ?GR=>Dw (?T7 v) (DZ K Au B q (?gJ) ls) (?KE))
 . ext m1;intro q dx nq wW ZL;have s7:?h H10 (upd (upd H10 dx (.own q)) q (?N Au dx [])):=?oP nq;apply#[q,dx,p,us,iV H10 p,?gJ,rfl,Ab,s7 _ _ S10.hp,EZ S10.hp S10.r,?QN ?L3 s7,VF H10 p,(?L3).free nq,tY Eb h2,by rw[AZ Eb h2];omega,λB ls H11 sx bk s5B sBH nB=>?kT];exact ?OD #[q,B,ls,rfl,bk,sBH]
 apply WJ λq B ls H11 bk sB=>?_;intro sq;let#[dx,P,Lv,Lf,lu1,wu1,hpB,_]:=bk.ob
 have tell:∀kk:Nat,kk<4->∃ps,ls[kk]?=?kC/\((Xc ps:Nat):Int)=[1,0,0,0].getD kk 0/\OG ps=?K7 kk []:=λkk hkk=>by
  have hps:=qa1 (l:=ls) (i:=kk) (by have:=bk.n4;omega);exact#[_,hps,yS Eb h2 bk.tie hkk hps]
 apply ?O9 (λσ' H'=>?T7 v/\?KE)
 . ext O3
   let Bm2:?U:=λi ys τ G=>Er (?h H11 G) ?c4 (ys=((?t3:?v9).take i).map ?X) (i<=4) (?PR [o1,rS q])
   apply Ik (lo:=0) (n:=4) Bm2
    #[?bK,Ab,rfl,?K,?k,rfl] ?_ ?_
   . rintro i ys τ G hi Ea;revert τ;apply XA ?_;intro g1 Ct yl i4 o1 Fv;let ?CE:=?I3;have sG:=?tX g1;apply#[_,rfl,q,dx,_,rfl,?FB,rfl,_,rfl,q,?i6,B,?gJ,ls,rfl,bk,sG,O9m,O9m,λps' G2 e g2=>?_];ext MQ;rw[z1];have y4:ys.length<=4:=by rw[yl,qa2,qe2];exact Nat.min_le_right ..
     apply#[?mA,?bJ,?uA,Ab,?_,O9m,_,rfl];rw[yl]
     match i,hi with
     | 0,_=>rfl
     | 1,_=>rfl
     | 2,_=>rfl
     | 3,_=>rfl
   . rintro ys τ G ⟨g1,Ct,yl,_,_⟩;apply ?I8;have sE:?h G (?PX 1):=?fZ;have rD:?UQ (?d D):=#[D,_,rfl,?OE sE Ct,Ey.mpr (by rw[yl];rfl)]
     have rE:?UQ ?cE:=#[E,_,rfl,?bO,?vV]
     apply#[_,_,rD,rE,?K,_,rfl,?_];rw[P9];apply ?FT;exact ?OD #[rfl,(?tX g1).trans sE]
 apply Ha λH12 sB2=>?_;intro sq;ext O3
 let Bm1:?U:=λi ys τ G=>Bw (?h H12 G) ((∃bs:?iX,ys=?f3/\G D=?oN/\?B6/\∀(j:Nat) b m,bs[j]?=?c b->(?s1 i)[j]?=?c m->b≠D/\G b=?SX (m.map ?X))) (i<=4) (?PR [o1,rS q])
 apply Ik (lo:=0) (n:=4) Bm1
  #[?bK,#[[],rfl,Ab,rfl,λj b m e=>?wS],?K,?k,rfl] ?_ ?_
 . rintro i ys τ G hi ⟨g1,⟨bs,rfl,Ct,bl,hb⟩,i4,o1,rfl⟩;let ?CE:=?I3;have sG:=sB2.trans g1;apply#[_,rfl,q,dx,_,rfl,?FB,rfl,_,rfl,q,?i6,B,?gJ,ls,rfl,bk,sG,O9m,O9m,λps' T G2 e nT g2 hT=>?_];ext MQ;rw[z2]at hT;have nTD:T≠D:=λz=>by rw[z,Ct]at nT;cases nT
   have Xt:=?mA
   have Z9:?s1 ?aT=?s1 i++[?LI]:=by
    match i,hi with
    | 0,_=>rfl
    | 1,_=>rfl
    | 2,_=>rfl
    | 3,_=>rfl
   apply#[Xt,?eD,?uA,#[bs++[T],?hR,by rw[Ab,qb0];rfl,by rw[qa8,bl];rfl,?_],O9m,_,rfl];rw[Z9];have xM:bs.length=(?s1 i).length:=by rw[bl,qe2];show i=min i 4;omega
   have:=Qg.snoc (D:=D) (b:=T) (n:=?LI) Ct xM hb g2 nTD hT;rw[qb0]at this;ext bX
 . rintro ys τ G ⟨g1,⟨bs,rfl,Ct,bl,hb⟩,_,_⟩;have na:Qg G D ?kZ:=#[bs,Ct,by rw[bl];rfl,hb]
   apply#[?b5,λc1 hc1=>?_];have t1:?QC G ?G8:=?y hc1;have e1:upd G c1 ?bQ c1=?h2:=Ab;generalize ?G8=J1 at t1 e1;apply#[_,rfl,?a9,λc2 hc2=>?_];have t2:?QC J1 ?DB:=?y hc2;have e2:upd J1 c2 (?m [?gS]) c2=?SX [?gS]:=Ab;generalize ?DB=J2 at t2 e2;apply#[?b5,λc3 hc3=>?_];have t3:?QC J2 ?JD:=?y hc3;have e3:upd J2 c3 ?bQ c3=?h2:=Ab;generalize ?JD=J3 at t3 e3;apply#[?b5,λc4 hc4=>?_];have t4:?QC J3 ?zS:=?y hc4;have e4:upd J3 c4 ?bQ c4=?h2:=Ab;generalize ?zS=J4 at t4 e4;apply ?I8;have t5:?h J4 (?QU E):=?fZ;have rE:Rep K (?QU E) ?cE (?xO):=#[E,_,rfl,?bO,#[_,_,rfl,#[c1,_,rfl,?OE (?w5 (?qD (?iI t5))) e1,rfl],#[_,_,rfl,#[c2,_,rfl,.of (?II),?vV],#[_,_,rfl,#[c3,_,rfl,?OE (?iI t5) e3,rfl],#[_,_,rfl,#[c4,_,rfl,?OE t5 e4,rfl],rfl]]]]]
   apply#[?xO,?xO,(na.same (?wV (?w5 (?qD (?iI t5))))).rep,rE,?_,?_]
   . show deps ((?kZ:LLInt).map λn=>L2.D.lst (Fg n))+1<=8;have:=KL ?kZ;omega
   rw[P9];exact kq _
universe e9
def Hs[?lY](h:∀a0,P [a0])[?m2](hl:?Q3 1):P us:=by
 cases us with
 | nil=>ext b8
 | cons a0 u0 =>
   cases u0 with
   | nil=>exact h a0
   | cons _ _=>simp at hl
def Dz[?lY](h:∀a0 a1,P [a0,a1])[?m2](hl:?Q3 2):P us:=by
 cases us with
 | nil=>ext b8
 | cons a0 u0 =>
   cases u0 with
   | nil=>ext b8
   | cons a1 u1 =>
     cases u1 with
     | nil=>exact h a0 a1
     | cons _ _=>simp at hl
def G7[?lY](h:∀a0 a1 a2,P [a0,a1,a2])[?m2](hl:?Q3 3):P us:=by
 cases us with
 | nil=>ext b8
 | cons a0 u0 =>
   cases u0 with
   | nil=>ext b8
   | cons a1 u1 =>
     cases u1 with
     | nil=>ext b8
     | cons a2 u2 =>
       cases u2 with
       | nil=>exact h a0 a1 a2
       | cons _ _=>simp at hl
def RK[?lY](h:∀a0 a1 a2 a3,P [a0,a1,a2,a3])[?m2](hl:?Q3 4):P us:=by
 cases us with
 | nil=>ext b8
 | cons a0 u0 =>
   cases u0 with
   | nil=>ext b8
   | cons a1 u1 =>
     cases u1 with
     | nil=>ext b8
     | cons a2 u2 =>
       cases u2 with
       | nil=>ext b8
       | cons a3 u3 =>
         cases u3 with
         | nil=>exact h a0 a1 a2 a3
         | cons _ _=>simp at hl
def rK[?lY](h:∀a0 a1 a2 a3 a4,P [a0,a1,a2,a3,a4])[?m2](hl:?Q3 5):P us:=by
 cases us with
 | nil=>ext b8
 | cons a0 u0 =>
   cases u0 with
   | nil=>ext b8
   | cons a1 u1 =>
     cases u1 with
     | nil=>ext b8
     | cons a2 u2 =>
       cases u2 with
       | nil=>ext b8
       | cons a3 u3 =>
         cases u3 with
         | nil=>ext b8
         | cons a4 u4 =>
           cases u4 with
           | nil=>exact h a0 a1 a2 a3 a4
           | cons _ _=>simp at hl
set_option maxHeartbeats 4000000 in
noncomputable abbrev nS(K:W.Frag)(s:Str)(a:Addr):Prop:=?CW=?c (?c ?n1)
noncomputable abbrev nN9(K:W.Frag)(s:Str):Prop:=?CW=?bF
noncomputable abbrev kO(K:W.Frag)(a b:Addr)(v:Bool):Prop:=PySem.W.kitOne K ?n1 (?mG)=?dQ
def all_mk{l:PySem.W.OpenLaw}{w:World}{K:W.Frag}{h:Heap}{mg:?wZ}{fa:Addr}{Af:Addr}
 {Ad:Addr}
 {Ah:Addr}
 {Au:Addr}
 {Gg:Addr}{Zd g9:OAddr}{Yk:Ro}{Ze Zt c5 Yz Qb c9:Value}
 {Hm:Addr}{v7 AF:OAddr}{l8:Ro}{v9 y6 y8 q9 Ri aC:Value}
 {Je:Addr}{cR dY:OAddr}{cC:Ro}{cT DC DM CJ Ul DQ:Value}
 {Ad7:Addr}{Aq7 xW:OAddr}{Ao0:Ro}{Aq8 XH xS WS RY xT:Value}
 {Wc:Tok}
 {Kh:Tok}
 {Q7:Tok}
 {dI:Addr}{UU:Nat}{pA:Ro}{lT LS lS lR LQ:Tok}
 {K4:Addr}{Zi:Nat}{Wz:Ro}{Uz Uy Ux Uw:Tok}
 (X:K.In h) (G:?C0) (hfa:mg ?hA=?QG fa)
 (SH:nS K "Lines" Af)
 (OE:nS K "Stairs" Ad)
 (VZ:nS K "Work" Ah)
 (WA:nS K "Book" Au)
 (JB:?PW ?BV Ry)
 (V2:?PW ?B9 Ia)
 (jB:?PW ?H0 Rx)
 (z7:?PW ?HR Lu)
 (RS:?PW ?K0 Yu)
 (VO:?PW "times" cG)
 (vO:?PW "weigh" CF)
 (V4:?PW ?H6 Ic)
 (RQ:?PW ?C1 Ys)
 (nK:?PW ?B0 U7)
 (vP:?PW "mixed" CG)
 (dN:?PW ?KS Np)
 (RT:?PW ?G9 Yv)
 (AG:?a7 K ?e0 ?cL=?c (?c ?qU))
 (Zu:?PI ?w2 ?qU)
 (y3:?iG Gg=?c #[Ze,Zd,?n8 (?nL ?cL ?IA (Ix Ex) (Go Ex) (As Ex) ?k7 Zt c5 Yz g9 Qb c9),Yk])
 (AE:?qI K Qb ?IA=true)
 (Rc:?PI ?f4 ?qU)
 (IZ:?PW ?FF Ru)
 (y9:?PW ?DT Lq)
 (Uh:?PW ?m3 Hf)
 (z6:?PW ?r1 Lr)
 (GK:?PW ?q5 Pj)
 (NO:?PW ?oE Vc)
 (V3:?PW ?qO Ib)
 (Ae1:?PW ?m9 iB)
 (Ui:?PW ?qN Hg)
 (Q3:?PW ?nJ F4)
 (nO:?PW ?q7 Vb)
 (Ae2:?PW ?rZ IB)
 (DN:?PW ?oK Nq)
 (GJ:?PW ?rR Ph)
 (RO:?PW ?o3 Yr)
 (DY:?a7 K ?e0 ?fJ=?c (?QG Hm))
 (Re:?PI ?w2 (?d Hm))
 (DA:?iG Hm=?c #[v9,v7,?n8 (?nL ?fJ ?wE (Ix Fe) (Go Fe) (As Fe) ?k7 y6 y8 q9 AF Ri aC),l8])
 (DU:?qI K Ri ?wE=true)
 (Ob:?PI ?f4 (?d Hm))
 (Xb:Sk K Ad ?cL ?EK Jm)
 (Nc:?PW ?nW Ew)
 (JD:?PW ?mB R8)
 (Q2:?PW ?o5 F3)
 (z8:?PW ?pN Lw)
 (jC:?PW ?rK Rz)
 (NJ:?PW ?r6 U6)
 (jF:?PW ?oJ Sb)
 (gW:?a7 K ?e0 ?c6=?c (?QG Je))
 (T5:?PI ?w2 (?d Je))
 (GA:?iG Je=?c #[cT,cR,?n8 (?nL ?c6 ?v4 (Ix Fw) (Go Fw) (As Fw) ?k7 DC DM CJ dY Ul DQ),cC])
 (GQ:?qI K Ul ?v4=true)
 (Py:?PI ?f4 (?d Je))
 (z9:Sk K Ah ?cL ?IQ Lx)
 (JA:?PW ?p1 Rw)
 (NK:?PW ?mV U8)
 (Ae4:?PW ?oD iC)
 (NL:?PW ?rE U9)
 (Q5:Sk K Ad ?u7 ?FC F6)
 (DO:Sk K Ah ?sO ?AT Nt)
 (jA:?PW ?pQ Rv)
 (DP:Sk K Au ?u1 ?JQ Nu)
 (aB:Sk K Au ?xG ?DI Lz)
 (jE:?PW ?nP R9)
 (c6:?PW ?nG Kq)
 (AA:Sk K Ad ?x0 ?F5 Ly)
 (W9:Sk K Ad ?x1 ?E4 Jk)
 (Q4:Sk K Ah ?t1 ?ET F5)
 (Mh:?PW ?qL Ep)
 (JC:?PW ?oB R6)
 (Xa:Sk K Ad ?tZ ?C6 Jl)
 (GI:?PW ?n4 Pf)
 (NN:?PW ?q6 Va)
 (rR:?PW ?qJ Yt)
 (NI:?PW ?rX U5)
 (gJ:?PW ?mU Pg)
 (jD:?PW ?nT R7)
 (c7:?PW ?pB Kr)
 (gK:Sk K Ah ?uY ?GU Pi)
 (Sr:?PW ?r7 Gr)
 (Uk:Sk K Ah ?tU ?B7 Hi)
 (Uj:?PW ?o6 Hh)
 (JE:?PW ?r8 Sa)
 (dO:?PW ?nD Nr)
 (jG:?PW ?pZ Sc)
 (AB:Sk K Au ?cL ?L6 L1)
 (Bl6:nS K ?hA Ad7)
 (Bc8:?iG Ad7=?c #[Aq8,Aq7,?n8 (?D4),Ao0])
 (Bl1:?qI K RY ?hA=true)
 (Bd4:?PI ?f4 (?d Ad7))
 (i7:?a7 K ?gN ?fJ=?c (?QG Hm))
 (aG:?a7 K ?gN ?c6=?c (?QG Je))
 (mR:PySem.W.readsIn K Af (.type "type")=true)
 (MS:PySem.W.findCls K ?e0 (.type "type") ?cL=?c (.val ?qU))
 (mS:PySem.W.specialIn K ?e0 "__getattribute__"=?c (?c (?M9 "type.__getattribute__")))
 (qK:?PI ?p3 Af)
 (qV:?PI ?f4 ?e0)
 (MK:?PI ?p3 Ad)
 (mQ:?PI ?f4 ?gN)
 (UW:?PI ?p3 Ah)
 (vD:?PI ?f4 ?fR)
 (uX:?PI ?p3 Au)
 (VD:?PI ?f4 ?jM)
 (pP:?R0 Af)
 (qZ:?PI ?pU Af)
 (pN:?PI ?o0 Af)
 (pH:?RA ?e0)
 (qy6:?P8 ?e0 ?dL)
 (qy7:?P8 ?e0 ?gB)
 (ME:?R0 Ad)
 (MW:?PI ?pU Ad)
 (MD:?PI ?o0 Ad)
 (MA:?RA ?gN)
 (qy8:?P8 ?gN ?dL)
 (qy9:?P8 ?gN ?gB)
 (qz0:?P8 ?gN "starts")
 (UJ:?R0 Ah)
 (VG:?PI ?pU Ah)
 (uF:?PI ?o0 Ah)
 (TZ:?RA ?fR)
 (qz1:?P8 ?fR ?a5)
 (qz2:?P8 ?fR ?b3)
 (qz3:?P8 ?fR ?eO)
 (qz4:?P8 ?fR ?hN)
 (qz5:?P8 ?fR ?fY)
 (uK:?R0 Au)
 (vH:?PI ?pU Au)
 (uG:?PI ?o0 Au)
 (uA:?RA ?jM)
 (qz6:?P8 ?jM ?i1)
 (qz7:?P8 ?jM ?I2)
 (qz8:?P8 ?jM ?cK)
 (wA:nS K "GAPS" dI)
 (VB:?iG dI=?c #[.type ?kP,?k,.seq #v[?g 32 lT,?g 16 LS,?g 8 lS,?g 4 lR,?g 2 LQ] UU,pA])
 (i6:nS K "FACE_COUNTS" K4)
 (Zo:?iG K4=?c #[.type ?kP,?k,.seq #v[?g 0 Uz,?g 2 Uy,?g 3 Ux,?g 4 Uw] Zi,Wz])
 (DX:?RS "MOST_ROWS" (?g 40 Wc))
 (oE:?RS "LEVELS" (?g 4 Kh))
 (g8:?RS "MOST_PIECES" (?g 40 Q7))
 (bX:?RJ "isinstance")
 (Ak1:?RJ "int")
 (YL:?RJ ?y2)
 (tM:?RJ ?kP)
 (Aj6:?RJ "zip")
 (Aj9:?RJ "max")
 (Ak0:?RJ "len")
 (Ak3:?RJ "all")
 (TM:?RJ "range")
 (yL:?RJ "dict")
 (Ak2:?RJ "any")
 (Aj7:?RJ "sum")
 (YK:?RJ ?eP)
 (EF:?RJ "enumerate")
 (Aj8:?RJ "min") :
 ∃fd:FuncData,(∀(s:Shared) (v:Value),BindsTo s fd #[[v],[]] [(?hZ,v)])/\∀base:Heap,K.In ?e->?DU->?RP ?dC fa:=by
 have e:=hfa.symm.trans (?QP Bl6);cases e;have T:?GG:=#[?QP SH,#[pP,qZ,pN,pH],qy6,qy7,?QP OE,#[ME,MW,MD,MA],qy8,qy9,qz0,?QP VZ,#[UJ,VG,uF,TZ],qz1,qz2,qz3,qz4,qz5,?QP WA,#[uK,vH,uG,uA],qz6,qz7,qz8,#[dI,?QP wA,λH=>?A #[_,_,_,VB,rfl,rfl,rfl,(?RR 5),?k4 ?bC (?I7)]],#[K4,?QP i6,λH=>?A #[_,_,_,Zo,rfl,rfl,rfl,(?RR 4),?I7]],#[_,?QP DX],#[_,?QP oE],#[_,?QP g8],?PQ bX,?PQ Ak1,?PQ YL,?PQ tM,?PQ Aj6,?PQ Aj9,?PQ Ak0,?PQ Ak3,?PQ TM,?PQ yL,?PQ Ak2,?PQ Aj7,?PQ YK,?PQ EF,?PQ Aj8]
 have Iz:=DH (st:=Ex) y3 AE Rc;have Kb:=DH (st:=Fe) DA DU Ob;have Ln:=DH (st:=Fw) GA GQ Py;have Br6:=DH (st:=Tr) Bc8 Bl1 Bd4;apply#[?D4,λs v=>.of_eq rfl,λbase _ _=>?_];have uu:=@Bq ?dC w K mg ?e h X G;have uy:=@Iw ?dC w K mg ?e;have Eg:=?OV JB FJ;have Gn:=?OT V2 Tu;have Db:=?OV jB fJ;have Of:=?OT z7 Y6;have Qr:=?U4 RS (λF=>mH F T);have Ih:=?OT VO pY;have P0:=?OT vO PX;have Jr:=?OV V4 Tw;have DG:=?OT RQ mG;have Z0:=?OT nK IG;have Ii:=?TM vP (λF=>PY F T);have P3:=?OT dN r6;have Xs:=?OV RT MH;have Zz:?UP ?dC:=#[_,_,#[mR,MS,mS,Rc],?F4,Op Iz T]
 have K0:?SK ?dC:=#[_,_,#[qK,AG,Zu,qV],?F4,Op Iz T]
 have M8:=?OV IZ fH;have Oe:=?OV y9 Y4;have Ig:=?OV Uh Sg;have Fx:=?OT z6 Y5;have Gx:=?OT GK CQ;have Z4:=?OV NO IJ;have Ef:=?UK V3 (?OP Tv Eg);have P1:=?UK Ae1 (?OP UN Qr);have Bl:=?UK Ui (?OP Sh Db);have Gw:=?UK Q3 (?OP Po Eg);have C6:=?UK nO (?OP iJ DG);have Rg:=uu Ae2 (?OP uO Z0) ?aJ;have P4:=?U4 DN (?OP v3 Ii);have Sn:=?U4 GJ (?OP CP Qr);have T9:=?UK RO (?OP MF Ii);have Md:?P9 ?dC Af:=#[_,_,#[DY,Re,Ob],?KR,?A7]
 have Jq:?P9 ?dC Ad:=#[_,_,#[i7,Re,Ob],?KR,?A7]
 have Vs:=dG MK mQ (P:=l.prog) (w:=w) (base:=base) Xb (?OP Vi Zz) ?aE;have E9:=uu Nc (?OP L4 Fx) ?aJ;have Vy:=uu JD (?OP fN Eg) ?aJ;have Dc:=?U4 Q2 (λF=>Pn F T Ef Db);have Dt:=?UK z8 (?OP Y7 Ef);have Vv:=?UK jC (?OP fK Gw);have K3:=?U4 NJ (?OP iG P4);have M9:=?U4 jF (?OP FO Bl);have Jz:?PA ?dC Af:=#[_,_,#[gW,T5,Py],?E8,?GP]
 have Cw:?PA ?dC Ad:=#[_,_,#[aG,T5,Py],?E8,?GP]
 have dF:=dG UW vD (P:=l.prog) (w:=w) (base:=base) z9 (λF=>Y8 F T K0 Rg) ?aE;have Vu:=?UK JA (λF=>FI F T P1 Ih);have Z1:=?UK NK (λF=>iH F T P1 Ih);have rA:=?UK Ae4 (λF=>UO F T Db Of Dc);have Z2:=?TM NL (λF=>iI F T Dc Eg);have Ch:=uy Q5 (?OP Pq Cw) ?aE;have Jy:=uy DO (λF=>v5 F T Jz Md) ?aE;have Vt:=uu jA (λF=>FH F T K3 C6 Bl M9) (?P4 rK (λ_ _ _ _ _=>rfl));have Od:=uy DP (?OP v6 Dt) ?T;have Me:=uy aB (?OP Za Dt) ?T;have E3:=?U4 jE (?OP FN Z2);have Mf:=uu c6 (?OP W3 rA) ?aJ;have Mc:=uy AA (λF=>Y9 F T Ch Cw Jq) ?aE;have Jo:=uy W9 (?OP Vg Ch) ?aJ;have F9:=uy Q4 (?OP Pp Jy) ?aJ;have Ez:=?U4 Mh (?OP K8 E3);have Vw:=uu JC (λF=>FL F T Jr Mf) ?aJ;have Jp:=uy Xa (λF=>Vh F T M8 Cw Mc) ?T;have Sl:=?UK GI (λF=>CO F T E3 Db);have Z3:=?U4 NN (λF=>II F T Vy E3);have Fi:=?UK rR (λF=>MG F T Ez Sn);have Ua:=?U4 NI (λF=>IF F T Vs K0 Jp Jo);have Sm:=?U4 gJ (λF=>cP F T E9 Z3);have Vx:=?UK jD (?OP fM Fi);have Mg:=?UK c7 (λF=>W4 F T Dt Bl C6 P3 Fi);have Li:=uy gK (λF=>cQ F T Ua C6) ?aJ;have Hl:=?TM Sr (λF=>Qz F T Db Fi P1 Z1 Ih P0);have Hk:=uy Uk (λF=>Sj F T Li Oe) ?aJ;have Ij:=?U4 Uj (λF=>Si F T Fi Bl Vx Ih Fx P0);have Vz:=?UK JE (λF=>fO F T dF Hk F9 C6 Vv);have P5:=?U4 dO (λF=>v4 F T Sl Hl Sm Ij);have V0:=uu jG (λF=>fP F T Rg Vz Bl K3 Vt C6 Mg) ?aJ;have DF:=dG uX VD (P:=l.prog) (w:=w) (base:=base) AB (λF=>Zb F T V0 Vu Vw Ig) ?T;exact zK Br6 T Z4 Gx P5 DF Od Me
def walk{l:PySem.W.OpenLaw}{q:Program}{loose:?cR Str}{XP:(?wZ)->?FV}{YP:World->?FV}{d:DefRec}{K:Params->PySem.W.Frag}(hn:l.most=?c 63)(hdf:d.params.defaults=[])
 (hY:∀(w:World) (h:Heap),YP w h->?tT h)
 (F:∀(w:World) (mg:?wZ) (fa:Addr) (h:Heap),?tT h->?C0->mg d.name=?QG fa →
   ∃fd:FuncData,(∀(s:Shared) (u:Value),BindsTo s fd #[[u],[]] [(?hZ,u)])/\∀base:Heap,?tT ?e->?DU->Bz ?dC w (K w.params) mg ?e Eo 14 fa fd ?pC (Xl (K w.params))) :
 PySem.W.WalkO q loose XP YP l.row.toRowW d [] (λf vs=>PySem.call f vs) :=
 L2.walk_ofB (n:=63) (k:=14) (x:=?hZ) (CX:=λ_=>Eo) (sp:=λw=>Xl (K w.params)) hn ?M hdf #[rfl,?K,?K,rfl] hY F (λ_ _ a ns hl Ac1 _ hS=>#[a,ns,rfl,hS,hl,Ac1,?KX]) λ_ _ _ _ _ z=>z
universe Hb
end
mutual
#check(0,[])
structure PySem.W.Fast:Prop where(t_1m6psCESsqG t_atB2kOQNuJN t_8hLISjGFtmh t_aiR9mP2NXeA t_f5ufuhlrxVF t_5qB4KZtKXtS t_3GOQ3xtqZRN t_9FBKzmTvhW4 t_7jUHFcZSZ1x t_a7buk9UydFM t_2LBg2sQSC0m t_gErXt4T4XzH t_3WSaSAk010O t_hQhv1cU8iYG t_iFSlZEhT0FX t_hG2bqxAP9nm t_hY24w8su10U t_iUUP3ah2hwt t_1jwauUgOP37 t_6XVg9WhFHoq t_8a6dsfbo1al t_jzG9mz7bvPM t_8efQLhlwe45 t_izvIXeyBDR1 t_kp6IYgddoXY t_3VwNL2RAgff t_oLYwg4bdtq t_ilBh0XNkYbj t_bttqiHhq91N t_dNTn4HiFubb t_hS6AgCtaJk5 t_b8GjHBvgix0 t_4VCaxqKOeTL t_kB63kJtsOUD t_473AmRplv0K t_4eICwh3g0YF t_jvJYvjIiSio t_bke4AI4odkj t_lk2deD5ZnL2 t_lvNGO7guw3i t_bCWGTcSpNxZ t_2t0AqrphF0T t_eUjBMCzYf4V t_3pCRDvTGhGO t_1KVtTadWNKF t_bCxdgZyjTD2 t_hYQWyHW6Wgo t_zMezAs5CJo t_3IDHmcJqnzR t_8PfBujSEQDI t_72bxZUz2Z7Q t_hDt8ytxYGRC t_4PBSSuFO6Ar t_iLUcAYm6Hx9 t_3xRsqkMugRO t_7KUrHaTfk5t t_i666S4mEmAc t_9Ro901XJMCs t_gwPsZbDfDbg t_84kZEOki9LA t_aGmoVigmXKP t_2EQc7kRsgSL t_c8c5RTckYDJ t_cWOskZVwEFt t_68U63DGmcU2 t_bhaQOqjfkU5 t_h9FiTuJRQiv t_2iVtAcQT8g3 t_1tWCXXZyIbf t_jnO40OcqT2i t_7FNOz49SAqL t_2RkmTJ5OSID t_1T44US5AedY t_j4JdJfeXUG0 t_wgQlsD7Xxj t_j0lxHbuUizy t_bpXvGmJHVfN t_aYya4ns8AOi t_22sTTh30gVv t_fWfTvMdbzJ3 t_5zLyPGNaAJl t_7gKm9mP5zvR t_dqi6JcgMuSK t_2CKcYr3itmG t_kIt198U1UZh t_1GpfLQOhNqU t_iP1K4PJtLk6 t_7EOwZClxx6h t_g1FGlBGDOSI t_68uNg9OWmeF t_924qVmUXzlk t_8muNZbxddud t_5QO8fudWoHw t_jp5shF9ksdm t_hVaUkNQz0eA t_44PEXXjNE0Y t_eiHreZi9oCk t_h4lPexndVMz t_2CO5oWzKO4w t_hiBZ6NyFc1C t_5LtBE1Cs6Gk t_kIUlEJBPyuf t_3KKDukIXDDl t_drtyRRgKTYo t_gn0i8Rp383f t_iNkL7vX5I54 t_jRR3ZCyEsku t_knEDG7iBRrb t_bFdEeKrxn62 t_3OtTQsdffeY t_awCbSJmLlvx t_4rjCDKOquzX t_elLkaEa13r t_dbHKhWpQD9k t_k1ZFXq1LKuL t_hcYhk4L6JFb t_7ZKucCMSe0V t_h6yjideSfva t_dZZprmcQ6PK t_aUuNiVF0y1e t_dD7h5ZE2aFy t_2lDO6LOoKn t_gdgZ5SIPVCL t_hBU0DZIYcRO t_k41zy6kcdQA t_4JrFU6OWPM1 t_bRaf4jrLc4k t_hGbr8oKGqws t_4EjdYqmxjvF t_11WUtW5D5t1 t_fhbFV8anJvo t_Y9iFM7JFM8 t_urmpfZoL4u t_c7yXPSpgbLI t_9W3avgV5GEY t_7BSuGlaWAHj t_gLriRFcwpXj t_k826r1cda7k t_hnyulmoH7vm t_a26o5zBFkGy t_b7DiuGoK4hg t_3HUbwsuG8YF t_iwveIDUb4bq t_kpSxDegOXPz t_imSwNpmJ4Qk t_7WXMRvOTnHX t_3BhTgmIDIKn t_9vZWtyUSUS9 t_1Xp9gWHFlx3 t_8DofJJ3avEL t_kM6pEuuEZQM t_hbbC0iRzAuU t_2rQeWAXxWyv t_ytuV9KJXwM t_1CZzPGK60Sx t_48TFGjle2c9 t_cPe9fljGGJ t_2SWv6IJRYub t_clhNtJIXgvE t_3yS0jBxZFT9 t_3R6AQ0ItMwZ t_4o4Fvi4P0de t_8VWseGzUu9L t_iNiiXol1Daz t_eflqlKmRfTE t_4AV1xqScgUc t_l03M2Ty4Fe8 t_jQNjzOutvF0 t_4zxUg4kirBd t_lVqAHnicrGN t_gcsUhum7ZqV t_hqphvsAKxB3 t_jZ6VJwS4TKL t_6iQJdXUWjgH t_7sC92WcgZWE t_awZWVTDMz4S t_fe5OyF89yGU t_8VgpS2YqJcR t_3Ossel5FWXn t_eICVT5YmuXS t_9RQcBOFuBYH t_iNGSeVLsiWp t_8mTJgWWqxz t_fUyY25Qhm21 t_aO8wifCnWiw t_1rmqH9Oi4w9 t_ad23WjIBx3S t_6bleNA1BFS8 t_cjSM9sfE0Cf t_8dXJOaOJZPy t_esVFx48SMV3 t_iLNSLfITdkf t_7VBmXBPtlOr t_kjiPdR3FJXU t_azIMCr92zFv t_jZLTD3OiwQQ t_11slWjCkBbl t_bqRgIPfEiLo t_dCjkI78R1mh t_11ojvs0KuSN t_b047nyK8chw t_19vLuUnmebg t_7fTcH8wRX2A t_8eCKea4Tfti t_gSgyYH2x7tz t_9Pt2rcG5975 t_lbc47CVYGQD t_4wPLSic7Otv t_1QCa7SgXcmB t_15wBmFIo9a6 t_5rYY9ZjDZvk t_jc9LyCPCSw5 t_4MufExd7PVP t_9FlfVcPj6AW t_alMDsmPNBmp t_6uy1hjDmU9F t_jrT0aR4CkXM t_4LC9h9gUQE7 t_6N2DyVUEmA3 t_jDkL4UXhogQ t_k0MJcTQRQUf t_e7hBoX4D0V2 t_rCxEkA4Mfw t_1wp2rtqSmM4 t_kh71cgT7SZk t_em36IvASzF6 t_bmyiTguG5kA t_3SKuA0RkS91 t_izkiyJy4Vek t_9zoN5wlon6n t_eCIkPTA4EWu t_ghrvJdPzKL0 t_h6egyStWf21 t_icEPtcw8kIr t_8OZpTsk0lx5 t_9m5RDMfxFh1 t_jvgrPTD9zDh t_cI6BPsgbq0o t_7GxBEK3bN2r t_6b005C4kmR9 t_kOYND5GoQs6 t_gC1vWEGgIZi t_4PRNYoDpAZ2 t_60y5b3YZ71i t_3V1vnrnJLzM t_5FhDDLnWE7 t_eZRtkQTHHVs t_ZghaTKAJKr t_6xsxpviHwu t_2dUTX1pqalH t_7YTeUYpk39 t_juzQLUlzKWC t_4Fl7hzr8hb7 t_jhPdcK5jB7u t_aUHVRxt4K4N t_ciJrWH0sLJo t_b0yFRlFSLgD t_43AUAqjkF8v t_bnpiFfASXsk t_2wiEEE4VhTg t_3Mg7DPXsV9d t_5wgWmlA7xl2 t_5AJkBAfzvWV t_g6QCIqZbFZz t_9xWj6UT8FIO t_5bELYxL84XI t_coMnT2SqP18 t_jklTUdL9bVO t_14zpK9cNcFv t_8w8trkqPEfb t_gRLHRPwFHnY t_bftZBiODcEU t_63VxybRZ95H t_dbZyTmcTsYV t_10vw4x7JBL5 t_7RUXoC6qvK5 t_cV5HfoADibl t_96Q9iAjOJV0 t_jTRSFFQrUAj t_fHXy5bZRuhu t_1O4g7Gwoqm0 t_8FyEcofun2m t_gTbI2NpYmxb t_lKSQh92135c t_3AvK9nzSB2W t_cTC0on3EUy1 t_cagRVWX7g1J t_5yZCGWajOdl t_fmdyEZYD4SF t_j1kZask4u0g t_azQwLp4Jf8I t_iX9n2FJb3BB t_6qeEX8LeZP2 t_kX42Q9AQHV7 t_ljoHi5bgQkt t_jB33H74DmW1 t_lO7pcZYM4g0 t_frfG1c7pOcz t_a1gYE7E1qwZ t_7fifplcLjSJ t_8Uurt0S2Jt4 t_4IrJTTmSva7 t_i3wSlNMeGsz t_5Ws8WMo7cE7 t_hXr6r3Q726M t_4nFBjIwFxUG t_V04CL38JoO t_10mnxzRCsbL t_2OCk5u9yy8f t_9P5S0x7CwDV t_j2EVnd9GB1W t_1mPzJmJ3fGE t_8ELS5VMpqTo t_f97AccVtGO4 t_byFAZtLjGO5 t_5TepS0wpQTa t_4qTIkNgIvN8 t_koY9taiEFpS t_2xJgZnII8tc t_bnyUqgXsmDP t_7mOdUfg3QWz t_kC26KFDqD4h t_lUsztIF3hu5 t_7IhkIp00u4I t_cceaggi704g t_f949GRRcCVb t_7YQluR9ooSv t_7PyTj69DO06 t_4hl2sbIWiRg t_aVxrwgkgCt9 t_39o17U0Dy7S t_8syWvodoJdl t_2FT1sIMMYx0 t_9w4ghCU3XUN t_c5tahAVckii t_d4Ir9hfoeN5 t_9poizjOhmCR t_hgWtyxXIKXq t_4CxBCKzuKRU t_3UFGOkUGvCl t_1IXCCo6ojy1 t_1aOu6LDU9QK t_dLuAqK8tSfB t_12Z0qTYgspm t_8W095XbEzZQ t_i3C1JS1VO1t t_gQSmolIb2On t_7s5T7tu8od7 t_gASPWzZLAFN t_hOqwVdpSmcd t_6ojGnAoz4OI t_bmfFQW4VFn3 t_fH050tphJCU t_jsVcODhbKew t_eASftcf88Ys t_74t4EGiLNcB t_gWdzoTAqpNm t_gH7g7gZiWqo t_aUIm9ZFmnMR t_ibvY1WXSuLn t_cA0iSAkbtMO t_hnSBhgTt165 t_h0KsF13cN2Q t_gQSyvD3gBni t_cDsJviCiKlO t_lOk26b00l9x t_enUqzmEjPU1 t_7OetFm8kibv t_6ws984NnXXd t_jrDvLRffQ9r t_e4XKsCDTqTj t_7Qm6miYcV6U t_90JTfY41KLP t_dNf2IZyS2n6 t_2DRRGpcuBhc t_5RoIWZrug3g t_ll9hsH0Xadn t_b44lpFJydbd t_cdgnDS6eAQ t_eszt4mUvFxX t_jNJqAdntq8r t_eXVnyAJ6Z4Z t_cwmngYcLI82 t_gvK6m7M8Htv t_aKrg9zU6frY t_gTyaCrmP1D9 t_3o1YG4m4br4 t_e4tiJZNZr4n t_k46HgTAIHtl t_4mTxcXKk7uQ t_fxoSTbOCReV t_afgvIODpiED t_1XH0EeprwxT t_lte5xPlE7WH t_hK02BY5w7w6 t_j1kKKNVAayt t_jhUSLvvU7vr t_9iHgqcspbj7 t_j8cikCTSxpV t_iE8VcPRzGwT t_6tutjlbrobG t_El0o7Yx1fW t_2VIEiiGPSrU t_1YRA2bob3wd t_lURkUdjEKbH t_dnRyuZpXEgS t_lFc5CWuMpmW t_5w8wCQuVxJL t_5Xvj1nvTtny t_8z0fK71AfuM t_3oSqifLZZxA t_6azqzM1SBXC t_iLfMbNpURfS t_1TRHIMcvCFm t_h2HDq2Q3Gf5 t_ez6CAwpPylb t_eG2XBlqDSSD t_7otQiezhhd0 t_2kS94sOkerg t_grrNLnMEGDQ:True)
end
open PySem PySem.W PyProof.Rows
set_option maxRecDepth 100000 in
set_option maxHeartbeats 0 in
theorem PySem.Challenge.cw_holebook_k70_a_book_by_hand_holds : PySem.Challenge.rw_holebook_k70_a_book_by_hand.Holds := by
 w_on;o_law;k_head;(case hw=>w_witness2)
 k_fill
 refine Hb.walk (l:=PySem.Challenge.rw_holebook_k70_a_book_by_hand) rfl rfl (fun w h Y=>PySem.W.kIn_of Y) ?F
 case F =>
  intro w mg fa h KX G hmg
  refine' Hb.all_mk KX G hmg ..
  all_goals try delta Hb.nS Hb.nN9 Hb.kO
  all_goals try first | exact⟨_,_,by k_is,⟨⟨_,_,_,_,_,_,_,_,_,rfl,by k_is,by k_is⟩,by k_is⟩⟩ | exact⟨_,_,by k_is,by k_is,⟨⟨_,_,_,_,_,_,_,_,_,rfl,by k_is,by k_is⟩,by k_is⟩⟩ | k_is | kit_is | kts_isx | k_exc | k_qdec | kernel_rfl | decide +kernel

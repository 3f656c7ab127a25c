"""What language.py asks of single files and of the whole package beyond their words: L18, L22 and L23.

Each function yields couples (line, rule, what) of the places that break a rule.
"""

import ast

AT_ONCE = {"range", "zip", "enumerate", "reversed", "map"}
VIEWS = {"items", "keys", "values"}
# Builtins that iterate over their first argument on the spot.
TAKERS = {"list", "tuple", "dict", "sorted", "sum", "any", "all", "enumerate", "zip", "min", "max"}
CHANGERS = {"append", "clear", "extend", "insert", "pop", "remove", "reverse", "setdefault", "update", "sort", "add",
            "discard"}


def parents_of(tree):
    return {child: node for node in ast.walk(tree) for child in ast.iter_child_nodes(node)}


def called_name(node):
    return node.func.id if isinstance(node, ast.Call) and isinstance(node.func, ast.Name) else None


def is_at_once(node):
    """Whether a node makes a range, a zip, a view of a dict or the like."""
    if called_name(node) in AT_ONCE:
        return True
    return isinstance(node, ast.Call) and isinstance(node.func, ast.Attribute) and node.func.attr in VIEWS


def is_iterated(node, parents):
    """Whether what such a node makes is iterated on the spot, or kept by a plain local name."""
    parent = parents[node]
    if isinstance(parent, (ast.For, ast.comprehension)):
        return parent.iter is node
    if isinstance(parent, ast.Assign):
        return len(parent.targets) == 1 and isinstance(parent.targets[0], ast.Name)
    if isinstance(parent, ast.Compare):
        return called_name(node) == "range" or isinstance(node.func, ast.Attribute) and node.func.attr == "keys"
    name = called_name(parent)
    if name == "len":
        return called_name(node) == "range" or isinstance(node.func, ast.Attribute)
    if name == "reversed":
        return called_name(node) == "range"
    if name == "zip":
        return node in parent.args
    return name in TAKERS and bool(parent.args) and parent.args[0] is node


def kept_too_long(tree):
    """L23: ranges, zips and views that are stored, passed on or returned."""
    parents = parents_of(tree)
    for node in ast.walk(tree):
        if is_at_once(node) and not is_iterated(node, parents):
            yield node.lineno, "L23", "what is iterated at once is kept or passed on"


def sources_of(node):
    """The expressions that an iteration goes over, also through enumerate, zip, reversed and views."""
    if called_name(node) in ("enumerate", "zip", "reversed"):
        return [source for argument in node.args for source in sources_of(argument)]
    if isinstance(node, ast.Call) and isinstance(node.func, ast.Attribute) and node.func.attr in VIEWS:
        return [ast.dump(node.func.value)]
    if isinstance(node, (ast.Name, ast.Attribute, ast.Subscript)):
        return [ast.dump(node)]
    return []


def changed_in(nodes):
    """The couples (line, expression) of what is changed in some nodes."""
    for top in nodes:
        for node in ast.walk(top):
            if isinstance(node, ast.Call) and isinstance(node.func, ast.Attribute) and node.func.attr in CHANGERS:
                yield node.lineno, ast.dump(node.func.value)
            if isinstance(node, ast.Subscript) and not isinstance(node.ctx, ast.Load):
                yield node.lineno, ast.dump(node.value)


def changed_while_iterated(tree):
    """L23: what a loop or a comprehension iterates over and changes."""
    for node in ast.walk(tree):
        loops = []
        if isinstance(node, ast.For):
            loops = [(node.iter, node.body)]
        elif isinstance(node, (ast.ListComp, ast.SetComp)):
            loops = [(one.iter, [node.elt]) for one in node.generators]
        elif isinstance(node, ast.DictComp):
            loops = [(one.iter, [node.key, node.value]) for one in node.generators]
        for iterated, body in loops:
            sources = sources_of(iterated)
            for line, changed in changed_in(body):
                if changed in sources:
                    yield line, "L23", "what is iterated over is changed"


def classes_of(trees):
    return {node.name: node for tree in trees for node in tree.body if isinstance(node, ast.ClassDef)}


def classes_passed_on(tree, classes):
    """L18: classes that stand elsewhere than in a call, as a base, or in isinstance, except and raise."""
    parents = parents_of(tree)
    for node in ast.walk(tree):
        if not (isinstance(node, ast.Name) and isinstance(node.ctx, ast.Load) and node.id in classes):
            continue
        parent = parents[node]
        if isinstance(parent, ast.Tuple):
            parent = parents[parent]
        fits = (isinstance(parent, ast.Call) and parent.func is node or isinstance(parent, (ast.ClassDef, ast.Attribute))
                or isinstance(parent, ast.ExceptHandler) or isinstance(parent, ast.Raise)
                or called_name(parent) == "isinstance" and parent.args[0] is not node)
        if not fits:
            yield node.lineno, "L18", f"the class {node.id} is passed on"


def methods_of(owner):
    return {node.name for node in owner.body if isinstance(node, ast.FunctionDef)}


def attributes_of(trees):
    """All attributes that are assigned somewhere, each with a line."""
    return {node.attr: node.lineno for tree in trees for node in ast.walk(tree)
            if isinstance(node, ast.Attribute) and isinstance(node.ctx, ast.Store)}


def names_of_two_kinds(tree, trees):
    """L18: methods that have the name of an attribute, of whatever class."""
    attributes = attributes_of(trees)
    for owner in ast.walk(tree):
        if isinstance(owner, ast.ClassDef):
            for name in sorted(methods_of(owner) & set(attributes)):
                yield owner.lineno, "L18", f"{name} is a method here and an attribute somewhere"


def attributes_nobody_assigns(tree, trees):
    """L18: attributes that are read and that no class assigns."""
    known = set(attributes_of(trees)) | {name for owner in classes_of(trees).values() for name in methods_of(owner)}
    parents = parents_of(tree)
    for node in ast.walk(tree):
        if isinstance(node, ast.Attribute) and isinstance(node.ctx, ast.Load) and node.attr not in known:
            parent = parents[node]
            if not (isinstance(parent, ast.Call) and parent.func is node):
                yield node.lineno, "L18", f"the attribute {node.attr} is assigned by no class"


def takes_of(function, bound):
    """The least and the greatest number of arguments that a function takes, and the names of all."""
    given = function.args
    names = [argument.arg for argument in given.posonlyargs + given.args][bound:]
    least = len(names) - len(given.defaults)
    return least, len(names), set(names) | {argument.arg for argument in given.kwonlyargs}


def signatures_of(trees):
    """What each function at module level and each class takes when it is called; names of two kinds are left out."""
    found = {}
    for tree in trees:
        for node in tree.body:
            if isinstance(node, ast.FunctionDef):
                found.setdefault(node.name, []).append(takes_of(node, 0))
            if isinstance(node, ast.ClassDef):
                made = [inner for inner in node.body if isinstance(inner, ast.FunctionDef) and inner.name == "__init__"]
                if made:
                    found.setdefault(node.name, []).append(takes_of(made[0], 1))
    return {name: told[0] for name, told in found.items() if len(told) == 1}


def calls_that_do_not_fit(tree, trees):
    """L22: calls that pass more or less than a function takes."""
    signatures = signatures_of(trees)
    for node in ast.walk(tree):
        told = signatures.get(called_name(node))
        if told is None or any(isinstance(argument, ast.Starred) for argument in node.args):
            continue
        least, most, names = told
        keywords = {keyword.arg for keyword in node.keywords}
        if len(node.args) > most or len(node.args) + len(keywords) < least or not keywords <= names:
            yield node.lineno, "L22", f"a call of {called_name(node)} that does not fit it"


def faults_in(tree, trees):
    """All faults of a file in a package of these files."""
    yield from kept_too_long(tree)
    yield from changed_while_iterated(tree)
    yield from classes_passed_on(tree, classes_of(trees))
    yield from names_of_two_kinds(tree, trees)
    yield from attributes_nobody_assigns(tree, trees)
    yield from calls_that_do_not_fit(tree, trees)

"""Plans of net rows for the tests, and a plain reading of them: all copies are written out."""

from fractions import Fraction

from headsheard.nets import Net

ONE = (1, 1)
ENDLESS = ("ever", 0, ("net", "A"))


def moved(table, becomes):
    return {tuple(sorted((becomes[i], becomes[j]))): worth for (i, j), worth in table.items()}


def copies(parts, houses, by, many, limit):
    """The copies of what was unrolled, one behind another, until there are `limit` rounds."""
    rows = []
    copy = 0
    while len(rows) < limit and (many is None or copy < many):
        rows += [moved(table, [(house + copy * by) % houses for house in range(houses)]) for table in parts]
        copy += 1
    return rows[:limit]


def unroll(plan, nets, limit):
    """The tables (who hears whom how strongly) of the first rounds of a plan, at most `limit`."""
    houses = nets[0][1].houses
    word = plan[0]
    if word == "net":
        return [{(i, j): Fraction(*strength) for i, j, strength in dict(nets)[plan[1]].links}]
    if word == "then":
        rows = []
        for part in plan[1:]:
            if len(rows) < limit:
                rows += unroll(part, nets, limit - len(rows))
        return rows
    inner = unroll(plan[-1], nets, limit)
    if word == "repeat":
        return copies(inner, houses, plan[2], plan[1], limit)
    if word == "ever":
        return copies(inner, houses, plan[1], None, limit)
    if word == "scale":
        return [{pair: worth * Fraction(*plan[1]) for pair, worth in table.items()} for table in inner]
    becomes = [(house + plan[1]) % houses for house in range(houses)]
    if word == "swap":
        becomes = list(range(houses))
        becomes[plan[1]], becomes[plan[2]] = plan[2], plan[1]
    return [moved(table, becomes) for table in inner]


def table_of(net):
    return {(i, j): Fraction(*strength) for i, j, strength in net.links}


def cycle_of(plan, nets):
    """The couple (before, period) of an endless plan, by the words of the document."""
    houses = nets[0][1].houses
    if plan[0] == "ever":
        copies_asked = 1
        while copies_asked * plan[1] % houses:
            copies_asked += 1
        return 0, copies_asked * len(unroll(plan[2], nets, 10 ** 5))
    before, period = cycle_of(plan[-1], nets)
    if plan[0] == "then":
        before += sum(len(unroll(part, nets, 10 ** 5)) for part in plan[1:-1])
    return before, period


def some_plan(source, houses, names, depth=4, endless=False, most=4):
    """A right plan, endless or not, that is no deeper than `depth`."""
    words = ["then", "turn", "scale"] + (["swap"] if houses > 1 else [])
    words += ["ever", "ever"] if endless else ["net", "net", "repeat"]
    word = source.choice(words) if depth > 2 else "ever" if endless else "net"
    if word == "net" or depth == 1:
        return ("net", source.choice(names))
    if word == "then":
        parts = [some_plan(source, houses, names, depth - 1, False, most) for _ in range(source.randrange(most))]
        return ("then", *parts, some_plan(source, houses, names, depth - 1, endless, most))
    if word == "ever":
        return (word, source.randrange(houses), some_plan(source, houses, names, depth - 1, False, most))
    inner = some_plan(source, houses, names, depth - 1, endless, most)
    if word == "repeat":
        return (word, source.randrange(1, 5), source.randrange(houses), inner)
    if word == "turn":
        return (word, source.randrange(houses), inner)
    if word == "swap":
        return (word, *source.sample(range(houses), 2), inner)
    return (word, source.choice([(1, 1), (1, 2), (2, 3), (5, 1)]), inner)


def some_nets(source, houses, many=3):
    """Couples (name, net), ascending by name."""
    found = []
    for name in ["A", "B", "CD", "XYZW"][:many]:
        pairs = [(i, j) for i in range(houses) for j in range(i, houses)]
        kept = source.sample(pairs, source.randrange(len(pairs) + 1))
        found.append((name, Net(houses, [(i, j, source.choice([(1, 1), (1, 2), (3, 1)])) for i, j in kept])))
    return tuple(found)

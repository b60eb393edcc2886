"""Plans for the tests, and what the document says of them, worked out by other means than the program's."""

END = ("end",)
ONE = ("walk", "drop", "spare")
TWO = ("lock", "door", "bar")


def all_plans(depth):
    if depth == 0:
        return [END]
    lesser = all_plans(depth - 1)
    ones = [(word, part) for word in ONE for part in lesser]
    return [END] + ones + [(word, side, part) for word in TWO for side in lesser for part in lesser]


def some_plan(source, depth):
    """A plan of at most this depth, most often of just this one."""
    if depth == 0 or source.random() < 0.1:
        return END
    parts = [some_plan(source, depth - 1), some_plan(source, source.randrange(depth))]
    word = source.choice(ONE + TWO)
    if word in ONE:
        return (word, parts[0])
    source.shuffle(parts)
    return (word,) + tuple(parts)


def grown_plan(source, steps):
    """A plan of this many parts that are no end, each put in the place of some end."""
    plan = END
    for step in range(steps):
        word = source.choice(ONE + TWO)
        put = (word, END) if word in ONE else (word, END, END)
        ends = model_words(plan).count("end")
        plan = with_end(plan, source.randrange(ends), put)[0]
    return plan


def with_end(plan, number, put):
    """The plan with another in the place of its end of this number, and the number less the ends that it has."""
    if plan == END:
        return (put if number == 0 else END), number - 1
    parts = []
    for part in plan[1:]:
        changed, number = with_end(part, number, put)
        parts.append(changed)
    return (plan[0],) + tuple(parts), number


def tower(word, depth, left=True, top=END):
    """A plan that is deep by one word, on its left side or on its right, with the top at the end of it."""
    plan = top
    for step in range(depth):
        if word in ONE:
            plan = (word, plan)
        else:
            plan = (word, plan, END) if left else (word, END, plan)
    return plan


def model_depth(plan):
    """By how many brackets are open at once."""
    depths = [0]
    for sign in repr(plan):
        depths.append(depths[-1] + {"(": 1, ")": -1}.get(sign, 0))
    return max(depths) - 1


def model_words(plan):
    """The words of all the plan's parts."""
    return repr(plan).replace("(", " ").replace(")", " ").replace(",", " ").replace("'", "").split()


def model_built(plan):
    """By one who walks from room to room, with what is left to do laid on a heap; nothing is too many."""
    rooms, here = 1, 0
    ways, things, levers = [], [], []
    heap = [plan]
    while heap:
        job = heap.pop()
        if job[0] in ("walk", "drop"):
            ways.append((here, rooms, ("plain",), job[0] == "walk"))
            here, rooms = rooms, rooms + 1
            heap.append(job[1])
        if job[0] == "spare":
            things.append((here, 11))
            heap.append(job[1])
        if job[0] in TWO:
            heap += [job[2], ("gate", job[0], here), job[1]]
        if job[0] == "gate":
            home = job[2]
            kinds = [kind for room, kind in things if kind != 11]
            if job[1] == "bar":
                gate = ("bar", len(levers))
                levers.append((here, 2 ** len(levers)))
            else:
                gate = ({"lock": "need", "door": "door"}[job[1]], len(kinds))
                things.append((here, len(kinds)))
            if here != home:
                ways.append((here, home, ("plain",), False))
            ways.append((home, rooms, gate, True))
            here, rooms = rooms, rooms + 1
    return (rooms, 0, here, tuple(ways), tuple(things), tuple(levers), (), 0, 0)


def model_sizes(plan):
    made = model_built(plan)
    return (made[0], len(made[3]), len(made[4]), len(made[5]))


def is_too_many(plan):
    return any(size > most for size, most in zip(model_sizes(plan), (14, 20, 8, 4)))


def plan_needs(made):
    """What is needed in a built cellar, by its lists alone."""
    pulls = [("pull", number) for number in range(len(made[5]))]
    takes = [("take", number) for number, (room, kind) in enumerate(made[4]) if kind != 11]
    return pulls + takes + [("unlock", number) for number, way in enumerate(made[3]) if way[2][0] == "door"]

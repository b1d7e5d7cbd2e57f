"""What the tests share: tables and plans to try, and wrong things of every kind."""

import itertools

from cornertold.house import House
from cornertold.plans import size
from cornertold.tables import flipped, lifted, pushed, tables_of_two, through, turned
from cornertold.weaving import cloth_at, count_cloths, woven
from cornertold.wires import wires


class EqualToAll:
    """A thing of a strange kind, which must never be taken for a word or a number."""

    def __eq__(self, other):
        return True

    def __hash__(self):
        return 0


class Unaskable:
    """A thing that can't be compared, counted or taken apart."""

    def refuse(self, *rest):
        raise RuntimeError("asked what nobody may ask")

    __eq__ = __lt__ = __gt__ = __le__ = __ge__ = __len__ = __iter__ = __bool__ = __getitem__ = refuse
    __hash__ = None


def nested(kind):
    thing = kind()
    for depth in range(29):
        thing = kind([thing])
    return thing


ODD_THINGS = (
    None, True, False, 0, 1, -1, 41, 10 ** 30, -10 ** 30, 10 ** 5000,
    "", "row", "column", "0", "text\n", b"", b"row", [], [0], (), (0,), (None,), ((),), ((), ()),
    (True, True, True), ("row", 0), ("row", 0, 0, 0), ("row", True, 0), ["row", 0, 0],
    {}, {0: 1}, set(), {1}, frozenset(), range(4), nested(tuple), nested(list),
    object(), int, len, Ellipsis, EqualToAll(), Unaskable(),
    (EqualToAll(), EqualToAll(), EqualToAll()), (EqualToAll(), EqualToAll(), EqualToAll(), EqualToAll()),
    (Unaskable(), Unaskable()), (Unaskable(), Unaskable(), Unaskable()),
    (Unaskable(), Unaskable(), Unaskable(), Unaskable()),
)


def in_place_of_a_number(number):
    """Things that stand for no number, some of them equal to this one."""
    wrong = [None, str(number), (number,), [number], -1, number + 100, 10 ** 30, EqualToAll(), Unaskable()]
    if number in (0, 1):
        wrong.append(bool(number))
    return wrong


def in_place_of_a_text(text):
    return [None, 0, True, (text,), [text], text.encode(), list(text), text.upper(), text + " ", "", EqualToAll(),
            Unaskable()]


def in_place_of_a_tuple(thing, lengths):
    wrong = [None, 0, True, list(thing), str(thing), {}, (thing,), EqualToAll(), Unaskable()]
    if lengths:
        wrong.extend(thing[:k] for k in range(len(thing)))
        wrong.extend(thing + (last,) for last in (0, (), thing[-1] if thing else None))
    return wrong


def spoiled(thing, lengths=True):
    """The thing again and again, each time with one thing in it, however deep, put wrong.

    Where lengths is false no tuple gets longer or shorter.
    """
    if isinstance(thing, tuple):
        yield from in_place_of_a_tuple(thing, lengths)
        for at, part in enumerate(thing):
            for wrong in spoiled(part, lengths):
                yield thing[:at] + (wrong,) + thing[at + 1:]
    elif isinstance(thing, str):
        yield from in_place_of_a_text(thing)
    else:
        yield from in_place_of_a_number(thing)


def orders(q):
    """q tuples of all q letters, each in an order of its own."""
    shifted = [tuple((k + by) % q for k in range(q)) for by in range(q)]
    return tuple([tuple(reversed(order)) if at % 3 == 1 else order for at, order in enumerate(shifted)])


def mixed(q):
    """A table of q letters, q odd, in which what goes on at right and high hangs on both left and low."""
    return tuple(sorted((l, w, (l + w) % q, (l + 2 * w) % q) for l in range(q) for w in range(q)))


def some_tables(q):
    """At most twelve tables of q letters, of all sorts, for q of two all there are."""
    if q == 2:
        return tables_of_two()
    turns = orders(q)
    tables = [through(q), pushed(q, turns), lifted(q, turns)]
    tables.extend([turned(pushed(q, turns)), flipped(pushed(q, turns)), turned(lifted(q, turns))])
    if q in (3, 5, 7):
        tables.extend([mixed(q), turned(mixed(q)), flipped(mixed(q))])
    return tuple(tables)


def moving_tables(q, many=12):
    """So many tables of q letters, by most of which 0 at left and low brings other letters."""
    turns = orders(q)[1:] + orders(q)[:1]
    shifted = [pushed(q, turns), lifted(q, turns), turned(lifted(q, turns)), flipped(pushed(q, turns))]
    if q in (3, 5, 7):
        shifted.extend([tuple(sorted((l, w, (l + w + 1) % q, (l + 2 * w + by) % q) for l in range(q) for w in range(q)))
                        for by in (1, 2)])
    return (tuple(shifted) + some_tables(q) + some_tables(q))[:many]


def moving_plan(q, a, b, seed=1, many=12):
    """A plan of that size of such tables."""
    numbers = some_numbers(seed, a * b, many)
    return (q, moving_tables(q, many), a, tuple([numbers[j * a:(j + 1) * a] for j in range(b)]))


def rests(seed):
    """Numbers without end, always the same ones for a seed."""
    state = seed
    while True:
        state = (state * 1103515245 + 12345) % 2 ** 31
        yield state // 2 ** 8


def some_numbers(seed, many, below):
    source = rests(seed)
    return tuple([next(source) % below for k in range(many)])


def some_plan(q, a, b, seed=1):
    """A plan of that size, with tables of all sorts mixed up."""
    tables = some_tables(q)
    numbers = some_numbers(seed, a * b, len(tables))
    return (q, tables, a, tuple([numbers[j * a:(j + 1) * a] for j in range(b)]))


def some_sheet(q, a, b, seed=5):
    numbers = some_numbers(seed, 2 * (a + 1) * (b + 1), q)
    rows = tuple(numbers[j * (a + 1):(j + 1) * (a + 1)] for j in range(b))
    columns = tuple(numbers[-(i + 1) * (b + 1):][:b + 1] for i in range(a))
    return (rows, columns)


def some_cloth(plan, seed=3):
    a, b = size(plan)
    letters = some_numbers(seed, a + b, plan[0])
    return woven(plan, 0, (letters[:b], letters[b:]))


def some_known(a, b, seed):
    """Known wires of that size, few or many."""
    every = wires(a, b)
    most = 2 + seed % 5
    chosen = some_numbers(seed, len(every), most)
    return tuple([wire for wire, number in zip(every, chosen) if number == 0])


def changed(sheet, wire, sign):
    """The sheet with that letter on that wire."""
    word, number, place = wire
    threads = [[list(thread) for thread in threads] for threads in sheet]
    threads[word == "column"][number][place] = sign
    return tuple(tuple(tuple(thread) for thread in part) for part in threads)


def all_cloths(plan):
    """All cloths of a plan by their numbers; there must not be many."""
    return [cloth_at(plan, number) for number in range(count_cloths(plan))]


def all_sheets(q, a, b):
    """All sheets of that size; there must not be many."""
    rows = list(itertools.product(itertools.product(range(q), repeat=a + 1), repeat=b))
    columns = list(itertools.product(itertools.product(range(q), repeat=b + 1), repeat=a))
    return itertools.product(rows, columns)


SIZES = ((0, 0), (0, 1), (1, 0), (0, 3), (3, 0), (1, 1), (2, 1), (1, 2), (2, 2), (3, 2), (2, 3), (4, 3))
SMALL_SIZES = tuple(itertools.product(range(4), repeat=2))
FORTY_SIZES = ((40, 40), (40, 0), (0, 40), (40, 1), (1, 40), (40, 7))

# Four threads that wait for one another all round, forth and back.
MILLED_FORTH = ((0, 2), (2, 0))
MILLED_BACK = ((2, 0), (0, 2))


def all_picks(a, b):
    """All picks of that size; there must not be many."""
    xs = list(itertools.product(range(a + 1), repeat=b))
    return itertools.product(xs, itertools.product(range(b + 1), repeat=a))


def some_pick(a, b, seed):
    """A pick of that size, with or without a mill: many of its threads are picked at like places."""
    xs = some_numbers(seed, b, a + 1)
    ys = some_numbers(seed + 77, a, b + 1)
    stray = some_numbers(seed + 154, a + b, 2 + seed % 3)
    return (tuple([x if often == 0 else seed % (a + 1) for x, often in zip(xs, stray)]),
            tuple([y if often == 0 else seed % (b + 1) for y, often in zip(ys, stray[b:])]))


def mills_by_the_words(pick):
    """All mills of a pick, rising, by looking at all pairs of columns and rows."""
    xs, ys = pick
    columns = list(itertools.combinations(range(len(ys)), 2))
    rows = list(itertools.combinations(range(len(xs)), 2))
    found = []
    for (i, k), (j, l) in itertools.product(columns, rows):
        row_legs = {row: {0 if xs[row] <= column else 2 for column in (i, k)} for row in (j, l)}
        column_legs = {column: {1 if ys[column] <= row else 3 for row in (j, l)} for column in (i, k)}
        if (row_legs[j], column_legs[k], row_legs[l], column_legs[i]) == ({0}, {1}, {2}, {3}):
            found.append((i, k, j, l, 1))
        if (row_legs[j], column_legs[i], row_legs[l], column_legs[k]) == ({2}, {1}, {0}, {3}):
            found.append((i, k, j, l, -1))
    return sorted(found)


def grown_to(plan, letters=None):
    """A house that has grown to that plan, with these letters, nought without such, at left and low ends."""
    q, tables, a, rows = plan
    signs = letters or (0,) * (a + len(rows))
    house = House(q, tables)
    for i in range(a):
        house.grow("right", (), 0, signs[i])
    for j, numbers in enumerate(rows):
        house.grow("high", numbers, 0, signs[a + j])
    return house


SIGNS = "0179 \n-/,:rtx~"


def by_signs(text):
    """The text with a sign out, in, twice or another one."""
    for at in range(len(text) + 1):
        yield text[:at] + text[at + 1:]
        yield text[:at] + text[at:at + 1] * 2 + text[at + 1:]
        for sign in SIGNS:
            yield text[:at] + sign + text[at + 1:]
            yield text[:at] + sign + text[at:]


def by_parts(text, between, others=()):
    """The text with one of its parts out, twice, another one, or in another's place."""
    parts = text.split(between)
    for at in range(len(parts)):
        yield between.join(parts[:at] + parts[at + 1:])
        yield between.join(parts[:at] + parts[at:at + 1] * 2 + parts[at + 1:])
        yield between.join(parts[at + 1:] + parts[:at + 1])
        yield between.join(parts[:at] + parts[at:at + 2][::-1] + parts[at + 2:])
        for other in others:
            yield between.join(parts[:at] + [other] + parts[at + 1:])
            yield between.join(parts[:at] + [other] + parts[at:])

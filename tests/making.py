"""Places for the tests, made by a random source that begins alike each time."""

from fractions import Fraction

from checking import numbers, plane, ratio
from hingeworks.places import Place
from hingeworks.planes import Plane


def small_number(rng):
    return Fraction(rng.randint(-4, 4), rng.choice([1, 1, 1, 2, 3]))


def long_number(rng):
    """A fraction of forty digits above and below the line."""
    top = rng.randint(10 ** 39, 10 ** 40 - 1)
    return Fraction(rng.choice([-1, 1]) * top, rng.randint(10 ** 39, 10 ** 40 - 1))


def random_plane(rng, size, number=small_number):
    return plane(number(rng), *[number(rng) if rng.random() < 0.8 else 0 for _ in range(size)])


def random_place(rng, size, many, number=small_number):
    return Place([(random_plane(rng, size, number), rng.random() < 0.4) for _ in range(many)], size)


def mixed_place(rng, size, many, total, strict, number=small_number):
    """A place a mixture of whose rows, all of its weights above 0, is the number total."""
    parts = [random_plane(rng, size, number) for _ in range(many - 1)]
    weights = [rng.randint(1, 5) for _ in range(many)]
    last = [Fraction(total)] + [Fraction(0)] * size
    for weight, part in zip(weights, parts):
        last = [before - weight * item for before, item in zip(last, numbers(part))]
    parts.append(plane(*[item / weights[-1] for item in last]))
    rng.shuffle(parts)
    marks = [False] * many
    if strict:
        marks[rng.randrange(many)] = True
    return Place(list(zip(parts, marks)), size)


def place_around(rng, size, many, number=small_number):
    """A place that has a point, at which no row is below 0 and no strict one is 0."""
    middle = [ratio(number(rng)) for _ in range(size)]
    rows = []
    for _ in range(many):
        part = random_plane(rng, size, number)
        sign = part.at(middle).compared(0)
        strict = rng.random() < 0.4
        if sign == 0 and strict:
            part = part + Plane(1, [0] * size)
        rows.append((-part if sign < 0 else part, strict))
    return Place(rows, size)


def folded_place(rng, size, many, number=small_number):
    """A place with equal and with opposite rows, which all but one are 0 at one point."""
    middle = [ratio(number(rng)) for _ in range(size)]
    rows = []
    for _ in range(many // 2):
        part = random_plane(rng, size, number)
        part = part - Plane(part.at(middle), [0] * size)
        rows += [(part, False), (rng.choice([part, -part, part * -2]), rng.random() < 0.1)]
    return Place(rows + [(random_plane(rng, size, number), rng.random() < 0.5)], size)


def some_places(rng, rounds):
    """Places of all these families, of 0 to 6 letters and up to eight rows."""
    for turn in range(rounds):
        size = rng.randint(0, 6)
        many = rng.randint(0, 8)
        number = long_number if turn % 11 == 0 else small_number
        yield random_place(rng, size, many, number)
        yield place_around(rng, size, many, number)
        yield folded_place(rng, size, min(many, 6), number)
        total = rng.choice([-1, 0, 0, Fraction(-1, 10 ** 40 + 1), Fraction(1, 10 ** 40 + 1)])
        yield mixed_place(rng, size, max(many, 1), total, rng.random() < 0.5, number)

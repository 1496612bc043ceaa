"""What TELLINGs mean with n letters."""

from swapsums.errors import NoStay
from swapsums.letters import least_moving, poly_of, poly_times
from swapsums.plain import is_falling
from swapsums.ratios import ONE
from swapsums.shapes import without_noughts
from swapsums.sums import spread, sum_of
from swapsums.tables import content_of, filled


def meant(way, some, n):
    """The MEANING of a TELLING with n letters."""
    return spread(some, lambda shape: shape_meant(way, shape, n))


def shape_meant(way, shape, n):
    """What a way and a shape mean with n letters."""
    if way == "shapes":
        return each_once(n, arranged(shape, n))
    if way == "tables":
        return each_once(n, [content_of(n, table) for table in filled((shape, ()), n, None)])
    product = each_once(n, [(0,) * n])
    for part in shape:
        product = poly_times(product, each_once(n, part_powers(way, part, (part,) * n)))
    return product


def each_once(n, several):
    """The POLY of n letters that is the sum of these POWERS."""
    return poly_of(n, [(powers, ONE) for powers in several])


def arranged(shape, n):
    """All unlike POWERS of n letters that are a shape's parts and noughts."""
    if len(shape) > n:
        return []
    grown = [((), shape + (0,) * (n - len(shape)))]
    for place in range(n):
        grown = [(powers + (part,), without(left, part)) for powers, left in grown for part in sorted(set(left))]
    return [powers for powers, left in grown]


def without(numbers, number):
    """The numbers without the first one that is this one."""
    at = numbers.index(number)
    return numbers[:at] + numbers[at + 1:]


def part_powers(way, part, rooms):
    """The POWERS, none above the room at its place, that a part means by powers, choices or repeats."""
    if way == "powers":
        n = len(rooms)
        return [(0,) * i + (part,) + (0,) * (n - 1 - i) for i in range(n) if rooms[i] >= part]
    return shared_out(part, [min(room, 1) for room in rooms] if way == "choices" else rooms)


def shared_out(many, rooms):
    """All tuples of whole numbers from 0 on that come to so many, none above the room at its place."""
    grown = [((), many)]
    for room in rooms:
        grown = [(powers + (more,), left - more) for powers, left in grown for more in range(min(room, left) + 1)]
    return [powers for powers, left in grown if left == 0]


def shapes_by(n, poly):
    """The SUM of shapes of at most n parts that means a POLY with n letters, or NoStay."""
    letter = least_moving(n, poly)
    if letter is not None:
        raise NoStay(letter)
    return sum_of([(without_noughts(powers), number) for powers, number in poly if is_falling(powers)])

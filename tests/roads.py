"""Roads for the tests."""

ALONE = ((7, 3, 9),)
PLAIN = ((0, 2, 1), (1, 3, 1), (2, 1, 4))
FLAT = ((0, 1, 0), (0, 1, 0), (0, 1, 0))
# The last RING is the slowest one, and far from the first TOWER.
LATE = ((0, 1, 0), (1, 1, 0), (1, 1, 0), (1, 1, 9), (9, 1, 0))
# It takes many signs until the slowest one, that is slower by little, is felt.
SLOW = ((0, 10, 0), (1, 1, 1), (1, 1, 1), (10, 1, 7))
MOST = ((1000, 1000, 1000),) * 40
LEAST = ((0, 1, 0),)
ROADS = (ALONE, PLAIN, FLAT, LATE, SLOW, MOST, LEAST)


def drawn_road(draw, most_towers=6):
    """A road drawn by a random.Random."""
    most = draw.choice([1, 2, 3, 8])
    return tuple(
        (draw.randint(0, most), draw.randint(1, most), draw.randint(0, most))
        for _ in range(draw.randint(1, most_towers))
    )

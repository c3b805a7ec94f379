"""How much comes at most from land to land, each piece letting through as much as its price.

Prices are handed in for all pieces, so that they may be others than the drawing's.
room tells for each half piece how much may still go from its left to its right.
"""


def flood(joints, room, start):
    """For each land that is reached from start where there is room, the half piece by which; None for start."""
    came = {start: None}
    wave = [start]
    while wave:
        ahead = []
        for land in wave:
            for half, beyond in joints.rows[land]:
                if room[half] > 0 and beyond not in came:
                    came[beyond] = half
                    ahead.append(beyond)
        wave = ahead
    return came


def greatest_flow(joints, prices, start, goal):
    """(carried, near): what goes over each half piece when as much as can be comes from start to goal.

    near tells for each land whether it could still be reached from start then.
    """
    room = [prices[half // 2] for half in range(2 * len(prices))]
    came = flood(joints, room, start)
    while goal in came:
        path = joints.path_to(came, goal)
        many = min([room[half] for half in path])
        for half in path:
            room[half] -= many
            room[half ^ 1] += many
        came = flood(joints, room, start)
    carried = [max(0, prices[half // 2] - room[half]) for half in range(len(room))]
    return carried, [land in came for land in range(len(joints.rows))]


def taken_apart(joints, carried, start, goal):
    """What is carried from start to goal as a list of (path, many), path being half pieces in sequence."""
    rest = list(carried)
    found = []
    came = flood(joints, rest, start)
    while goal in came:
        path = joints.path_to(came, goal)
        many = min([rest[half] for half in path])
        for half in path:
            rest[half] -= many
        found.append((path, many))
        came = flood(joints, rest, start)
    return found

"""At which brick ratios two patterns are apart."""

from jointsapart.patterns import check_brick_ratio, check_share, pattern_joints
from jointsapart.ratios import common_multiple, make_ratio
from jointsapart.stretches import stretches_without


def difference_of(joint, other):
    """Return (shorts, longs) between two joints, with longs from 0, so that its sign does not count."""
    shorts = joint[0] - other[0]
    longs = joint[1] - other[1]
    if longs < 0 or longs == 0 and shorts < 0:
        return (-shorts, -longs)
    return (shorts, longs)


def differences_between(joints, others):
    """Return the ascending unlike differences of the joints of two patterns."""
    return tuple(sorted({difference_of(joint, other) for joint in joints for other in others}))


def _kept_by(differences, share):
    """Return the list of the ratios at which each of these differences is at least the share."""
    if (0, 0) in differences:
        return ()
    top, bottom = share
    slopes = [(shorts, longs) for shorts, longs in differences if longs > 0]
    unit = common_multiple([longs for _, longs in slopes])
    barred = [((-shorts * bottom - top) * (unit // longs), (-shorts * bottom + top) * (unit // longs))
              for shorts, longs in slopes]
    return stretches_without(barred, unit * bottom)


def kept_stretches(joint, other, share):
    """Return the list of the ratios at which two joints are at least the share apart."""
    return _kept_by([difference_of(joint, other)], check_share(share))


def apart_stretches(one, other, share):
    """Return the list of the ratios at which two patterns are apart for the share."""
    joints = pattern_joints(one)
    others = pattern_joints(other)
    return _kept_by(differences_between(joints, others), check_share(share))


def apart_from(one, other, share):
    """Return the least ratio from which on two patterns are always apart, or None."""
    stretches = apart_stretches(one, other, share)
    return stretches[-1].low if stretches else None


def least_distance(differences, ratio):
    """Return the least of these differences at a ratio, in parts of its bottom, or None if there are none."""
    top, bottom = ratio
    return min([abs(shorts * bottom + longs * top) for shorts, longs in differences], default=None)


def share_at(one, other, ratio):
    """Return the least distance of a joint of the one pattern from one of the other, or None without joints."""
    joints = pattern_joints(one)
    others = pattern_joints(other)
    check_brick_ratio(ratio)
    least = least_distance(differences_between(joints, others), ratio)
    return None if least is None else make_ratio(least, ratio[1])


def clash_at(one, other, share, ratio):
    """Return the first couple of joints of two patterns that are nearer than the share, or None."""
    joints = pattern_joints(one)
    others = pattern_joints(other)
    check_share(share)
    check_brick_ratio(ratio)
    for joint in joints:
        for place in others:
            if least_distance([difference_of(joint, place)], ratio) * share[1] < share[0] * ratio[1]:
                return (joint, place)
    return None

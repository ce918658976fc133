"""How early each meeting of a course could be done."""

from twinforks.courses import course_done


def earliest(net, course):
    """For each meeting of a course in no closed part 1, or one more than those on which it hangs."""
    return list(course_done(net, course, False).depths)

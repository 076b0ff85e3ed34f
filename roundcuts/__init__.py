"""Roundcuts: broken corners cut off by rounded sums."""

"""Doffyard: threads spun on frames, pieced by few hands."""

"""What drawings paint at every point of the plane."""

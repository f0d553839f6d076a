"""Line code made smaller."""
